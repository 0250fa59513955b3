import PyProof.Rows.All
import Wide.All
import OpenK.AllK
import Wide.FinOn
import Lean
import PyProof.EqAt
import PyProof.EqKinds
import PyProof.TupleCall
import KE.KLam
import KE.KTryOn
import KE.KIsAll
import KE.KNestM
import PySem.Challenge.RW_onechoice_k02_refusals
abbrev wB:=@PySem.wpAny_bind
abbrev hPs:=@PySem.Heap.get?_push_of_some
abbrev wQ:=@PySem.wpAny_pure
abbrev hPz:=@PySem.Heap.get?_push_size
abbrev hLz:=@PySem.Heap.lt_size
abbrev nLr:=@Nat.le_refl
abbrev lMc:=@List.mem_cons_of_mem
abbrev nLl:=@Nat.lt_of_lt_of_le
abbrev lGe:=@List.getElem?_eq_getElem
abbrev nNl:=@Nat.ne_of_lt
set_option Elab.async false
set_option linter.all false
set_option maxRecDepth 100000
namespace L2
open PySem PySem.Spec PyProof.Rows
noncomputable abbrev Key:=Sum Int Str
noncomputable def ziX:Key->Value->Bool
 | .inl k,v=>Value.isInt k v
 | .inr x,v=>Value.isStrOf x v
noncomputable def keyH(w:World):Key->Int
 | .inl k=>hashInt k
 | .inr x=>hashStr w x
theorem zaI:∀ {k:Key} {v:Value},ziX k v=true->(∃ i t,k=Sum.inl i/\v=Value.int i t)∨(∃ x t,k=Sum.inr x/\v=Value.str x t)
 | .inl i,v,h=>by
  obtain⟨t,e⟩:=Value.isInt_shape (k:=i) (v:=v) h
  exact .inl ⟨i,t,rfl,e⟩
 | .inr x,v,h=>by
  obtain⟨t,e⟩:=Value.isStrOf_shape (x:=x) (v:=v) h
  exact .inr ⟨x,t,rfl,e⟩
theorem keyIs_int(i:Int)(t:Tok):ziX (.inl i) (.int i t)=true:=by simp[ziX,Value.isInt]
theorem keyIs_str(x:Str)(t:Tok):ziX (.inr x) (.str x t)=true:=by simp[ziX,Value.isStrOf]
theorem key_ll(a b:Int):decide ((Sum.inl a:Key)=Sum.inl b)=(a==b):=by
 by_cases e:a=b
 ·subst e; simp
 ·have h:¬ (Sum.inl a:Key)=Sum.inl b:=λq=>e (Sum.inl.inj q)
  rw[decide_eq_false h]
  exact(beq_eq_false_iff_ne.mpr e).symm
theorem key_rr(a b:Str):decide ((Sum.inr a:Key)=Sum.inr b)=decide (a=b):=by
 by_cases e:a=b
 ·subst e; simp
 ·have h:¬ (Sum.inr a:Key)=Sum.inr b:=λq=>e (Sum.inr.inj q)
  rw[decide_eq_false h,decide_eq_false e]
theorem key_lr(a:Int)(b:Str):decide ((Sum.inl a:Key)=Sum.inr b)=false:=decide_eq_false (λq=>nomatch q)
theorem key_rl(a:Str)(b:Int):decide ((Sum.inr a:Key)=Sum.inl b)=false:=decide_eq_false (λq=>nomatch q)
noncomputable def zaE(prog:Program)(w:World):PySem.KeyKind prog w Key where
 is:=ziX
 hash:=keyH w
 inj:=λv a b ha hb=>by
  rcases zaI ha with ⟨i,t,rfl,rfl⟩ | ⟨x,t,rfl,rfl⟩
  ·rcases zaI hb with ⟨j,u,rfl,e⟩ | ⟨y,u,rfl,e⟩
   ·injection e with e1 _; rw[e1]
   ·exact nomatch e
  ·rcases zaI hb with ⟨j,u,rfl,e⟩ | ⟨y,u,rfl,e⟩
   ·exact nomatch e
   ·injection e with e1 _; rw[e1]
 byValue:=λk v h=>by
  rcases zaI h with ⟨i,t,rfl,rfl⟩ | ⟨x,t,rfl,rfl⟩<;>rfl
 pyHash:=λhv h=>by
  rcases zaI hv with ⟨i,t,rfl,rfl⟩ | ⟨x,t,rfl,rfl⟩
  ·exact wpAny_pyHash_int h
  ·exact wpAny_pyHash_str h
 eqBool:=λhu hv h=>by
  rcases zaI hu with ⟨i,t,rfl,rfl⟩ | ⟨x,t,rfl,rfl⟩
  ·rcases zaI hv with ⟨j,u,rfl,rfl⟩ | ⟨y,u,rfl,rfl⟩
   ·rw[key_ll]at h; exact wpAny_eqBool_int h
   ·rw[key_lr]at h; exact SeqAt.EqAt.int_str i t y u _ _ _ _ h
  ·rcases zaI hv with ⟨j,u,rfl,rfl⟩ | ⟨y,u,rfl,rfl⟩
   ·rw[key_rl]at h; exact SeqAt.EqAt.str_int x t j u _ _ _ _ h
   ·rw[key_rr]at h; exact wpAny_eqBool_str h
 «strs»:=λk x t v h=>by
  rcases zaI h with ⟨i,u,rfl,e⟩ | ⟨y,u,rfl,e⟩
  ·exact nomatch e
  ·injection e with e1 _
   subst e1
   cases v<;>rfl
theorem ziP(prog:Program)(w:World)(i:Int)(t:Tok):(zaE prog w).is (.inl i) (.int i t)=true:=keyIs_int i t
theorem ziO(prog:Program)(w:World)(x:Str)(t:Tok):(zaE prog w).is (.inr x) (.str x t)=true:=keyIs_str x t
inductive V where
 | non | bl (b:Bool) | int (i:Int) | str (x:Str) | byt (b:Array UInt8) | flt (b:UInt64) | ref (a:Addr) | ty (n:String)
 deriving DecidableEq
noncomputable def zaK:V->Value->Prop
 | .non,u=>u=Value.none
 | .bl b,u=>u=Value.bool b
 | .int i,u=>∃ t,u=Value.int i t
 | .str x,u=>∃ t,u=Value.str x t
 | .byt b,u=>∃ t,u=Value.bytes b t
 | .flt b,u=>∃ t,u=Value.float b t
 | .ref a,u=>u=Value.ref a
 | .ty n,u=>u=Value.type n
noncomputable abbrev zaM:List V->List Value->Prop:=Paired zaK
theorem zaM.length{xs:List V}{us:List Value}(r:zaM xs us):xs.length=us.length:=Paired.length r
theorem zaM.get:∀ {xs:List V} {us:List Value} {i:Nat} {x:V},zaM xs us->xs[i]?=some x->∃ u,us[i]?=some u/\zaK x u
 | _,_,_,_,.nil,e=>by simp at e
 | _,_,0,_,.cons r _,e=>by simp at e; subst e; exact⟨_,rfl,r⟩
 | _,_,i+1,x,.cons _ t,e=>by
  obtain⟨u,h1,h2⟩:=zaM.get (i:=i) (x:=x) t (by simpa using e)
  exact⟨u,by simpa using h1,h2⟩
theorem zaM.set{x:V}{u:Value}(r:zaK x u):∀ {xs:List V} {us:List Value} (i:Nat),zaM xs us->zaM (xs.set i x) (us.set i u)
 | _,_,_,.nil=>.nil
 | _,_,0,.cons _ t=>.cons r t
 | _,_,i+1,.cons q t=>.cons q (zaM.set r i t)
theorem zaM.append:∀ {xs ys:List V} {us ws:List Value},zaM xs us->zaM ys ws->zaM (xs++ys) (us++ws)
 | _,_,_,_,.nil,s=>s
 | _,_,_,_,.cons r t,s=>.cons r (zaM.append t s)
theorem zaM.take:∀ {xs:List V} {us:List Value} (n:Nat),zaM xs us->zaM (xs.take n) (us.take n)
 | _,_,0,_=>.nil
 | _,_,_+1,.nil=>.nil
 | _,_,n+1,.cons r t=>.cons r (zaM.take n t)
theorem zaM.drop:∀ {xs:List V} {us:List Value} (n:Nat),zaM xs us->zaM (xs.drop n) (us.drop n)
 | _,_,0,r=>r
 | _,_,_+1,.nil=>.nil
 | _,_,n+1,.cons _ t=>zaM.drop n t
noncomputable def zgI:Option V->Option Value->Prop
 | some v,some u=>zaK v u
 | none,none=>True
 | _,_=>False
noncomputable def KV{κ:Type}:List (κ×V)->List (κ×Value)->Prop:=Paired λ(p:κ×V) (q:κ×Value)=>p.1=q.1/\zaK p.2 q.2
noncomputable def kV:Key->V
 | .inl i=>.int i
 | .inr x=>.str x
inductive HO where
 | lst (xs:List V)
 | tup (xs:List V)
 | dK (kvs:List (Key×V)) | dT (kvs:List (List Key×V))
 | set (S:Int->Bool) (n:Nat)
 | ins (C dx:Addr) (fs:List (Str×V))
 | own (x:Addr)
 | xd (fs:List (Str×V))
 | met (f x:Addr)
 | rng (lo hi:Int)
 | frz (o:Obj) (u:HO)
 | tbl (ps:Array Value)
 | ext (φ:Heap->Prop)
noncomputable abbrev Hp:=Addr->Option HO
noncomputable def upd(H:Hp)(a:Addr)(o:HO):Hp:=λb=>if b=a then some o else H b
theorem zal{H:Hp}{a:Addr}{o:HO}:upd H a o a=some o:=by unfold upd; rw[if_pos rfl]
theorem zak{H:Hp}{a b:Addr}{o:HO}(h:b≠a):upd H a o b=H b:=by unfold upd; rw[if_neg h]
theorem ne_of{H:Hp}{a b:Addr}{o u:HO}(h:H a=some o)(h':H b=some u)(d:o≠u):a≠b:=by
 intro e; subst e; rw[h]at h'; exact d (Option.some.inj h')
theorem zap{H:Hp}{a b:Addr}{o:HO}(h:H a=some o)(h':H b=none):a≠b:=by
 intro e; subst e; rw[h]at h'; cases h'
section
variable (P:Program)(w:World)
noncomputable def zbz(H:Hp)(h:Heap)(a:Addr):HO->Prop
 | .lst xs=>xs.length<=sizeLine/\∃ (its:List Value) (n:Nat),zaM xs its/\h.get? a=some { cls:=.type "list",data:=.seq its.toArray n }
 | .tup xs=>xs.length<=sizeLine/\∃ its:List Value,zaM xs its/\IsTup h a its.toArray
 | .dK kvs=>kvs.length<=sizeLine/\(a==sysModules)=false/\∃ vs,KV kvs vs/\h.DictOf (zaE P w) a vs
 | .dT kvs=>kvs.length<=sizeLine/\(a==sysModules)=false/\∃ xs:List (List Key×Addr×Value),
   Paired (λ(p:List Key×V) (q:List Key×Addr×Value)=>p.1=q.1/\H q.2.1=some (.tup (p.1.map kV))/\zaK p.2 q.2.2) kvs xs /\
   ∃ o es ep,h.get? a=some o/\o.ExactDict/\o.data=.dict es ep/\es.toList=xs.map (entryOfKey (tupleKind (zaE P w)))/\(xs.map (·.1)).Nodup
 | .set S n=>h.SetOf (intKind P w) a S n
 | .ins C dx fs=>H dx=some (.own a)/\fs.length<=1000/\dx≠a/\h.get? a=some (W.instObj C dx) /\
   ∃ mA,h.Ns1 dx mA/\(∀ f,zgI (fs.lookup f) (mA f))/\PySem.Within mA (fs.map (·.1))
 | .own _=>∃ o,h.get? a=some o
 | .xd fs=>∃ mA,h.Ns1 a mA/\∀ f,zgI (fs.lookup f) (mA f)
 | .rng lo hi=>∃ t u v,h.get? a=some { cls:=.type "range",data:=.fields #[.int lo t,.int hi u,.int 1 v] }
 | .frz o u=>h.get? a=some o/\zbz H h a u
 | .tbl ps=>h.get? a=some { cls:=.none,data:=.fields ps }
 | .met f x=>h.get? a=some (W.methodObj (.ref f) (.ref x))
 | .ext φ=>φ h/\(∃ o,h.get? a=some o)/\∀ h1 h2:Heap,φ h1->(∀ o,h1.get? a=some o->h2.get? a=some o)->φ h2
noncomputable def HOk(H:Hp)(h:Heap):Prop:=∀ a o,H a=some o->zbz P w H h a o
end
section
variable {P:Program}{w:World}{H H':Hp}{h h':Heap}{a:Addr}{o:HO}
theorem zbz.lt(x:zbz P w H h a o):a < h.objs.size:=by
 cases o with
 | lst xs=>obtain⟨_,_,_,_,e⟩:=x; exact hLz e
 | tup xs=>obtain⟨_,_,_,p⟩:=x; exact p.lt
 | dK kvs=>obtain⟨_,_,_,_,o,_,_,e,_⟩:=x; exact hLz e
 | dT kvs=>obtain⟨_,_,_,_,o,_,_,e,_⟩:=x; exact hLz e
 | set S n=>obtain⟨o,_,_,_,e,_⟩:=x; exact hLz e
 | ins C dx fs=>obtain⟨_,_,_,e,_⟩:=x; exact hLz e
 | own y=>obtain⟨_,e⟩:=x; exact hLz e
 | xd fs=>obtain⟨_,⟨_,_,_,e,_⟩,_⟩:=x; exact hLz e
 | rng lo hi=>obtain⟨_,_,_,e⟩:=x; exact hLz e
 | frz ob u=>obtain⟨e,_⟩:=x; exact hLz e
 | tbl ps=>exact hLz (show h.get? a=some _ from x)
 | met f y=>exact hLz (show h.get? a=some _ from x)
 | ext φ=>obtain⟨_,⟨_,e⟩,_⟩:=x; exact hLz e
theorem Paired.mapP{α β:Type}{F G:α->β->Prop}:∀ {l₁:List α} {l₂:List β},Paired F l₁ l₂->(∀ a b,F a b->G a b)->Paired G l₁ l₂
 | _,_,.nil,_=>.nil
 | _,_,.cons r t,f=>.cons (f _ _ r) (Paired.mapP t f)
theorem zbz.stay(x:zbz P w H h a o)(k:∀ b u,(b=a∨H b=some (.own a))->h.get? b=some u->h'.get? b=some u)
  (ho:∀ b,H b=some (.own a)->H' b=some (.own a)) (ht:∀ b xs,H b=some (.tup xs)->H' b=some (.tup xs)):zbz P w H' h' a o:=by
 induction o with
 | lst xs=>obtain⟨z,its,n,r,e⟩:=x; exact⟨z,its,n,r,k _ _ (.inl rfl) e⟩
 | tup xs=>obtain⟨z,its,r,ob,e,c⟩:=x; exact⟨z,its,r,ob,k _ _ (.inl rfl) e,c⟩
 | dK kvs=>obtain⟨z,y,vs,r,ob,es,ep,e,c⟩:=x; exact⟨z,y,vs,r,ob,es,ep,k _ _ (.inl rfl) e,c⟩
 | dT kvs =>
  obtain⟨z,y,xs,r,ob,es,ep,e,c⟩:=x
  exact⟨z,y,xs,Paired.mapP r λp q z=>⟨z.1,ht _ _ z.2.1,z.2.2⟩,ob,es,ep,k _ _ (.inl rfl) e,c⟩
 | set S n=>obtain⟨ob,es,ep,t,e,c⟩:=x; exact⟨ob,es,ep,t,k _ _ (.inl rfl) e,c⟩
 | ins C dx fs =>
  obtain⟨d,z,ne,e,mA,⟨od,es,ep,e2,c⟩,r⟩:=x
  exact⟨ho _ d,z,ne,k _ _ (.inl rfl) e,mA,⟨od,es,ep,k _ _ (.inr d) e2,c⟩,r⟩
 | own y=>obtain⟨ob,e⟩:=x; exact⟨ob,k _ _ (.inl rfl) e⟩
 | xd fs=>obtain⟨mA,⟨od,es,ep,e,c⟩,r⟩:=x; exact⟨mA,⟨od,es,ep,k _ _ (.inl rfl) e,c⟩,r⟩
 | rng lo hi=>obtain⟨t,u,v,e⟩:=x; exact⟨t,u,v,k _ _ (.inl rfl) e⟩
 | frz ob u ih=>obtain⟨e,q⟩:=x; exact⟨k _ _ (.inl rfl) e,ih q⟩
 | tbl ps =>
  have e:h.get? a=some { cls:=.none,data:=.fields ps }:=x
  show h'.get? a=some { cls:=.none,data:=.fields ps }
  exact k a _ (.inl rfl) e
 | met f y =>
  have e:h.get? a=some (W.methodObj (.ref f) (.ref y)):=x
  show h'.get? a=some (W.methodObj (.ref f) (.ref y))
  exact k a _ (.inl rfl) e
 | ext φ=>obtain⟨p,⟨o,e⟩,st⟩:=x; exact⟨st _ _ p λo q=>k _ _ (.inl rfl) q,⟨o,k _ _ (.inl rfl) e⟩,st⟩
theorem HOk.lt(x:HOk P w H h)(e:H a=some o):a < h.objs.size:=(x a o e).lt
theorem HOk.fresh(x:HOk P w H h)(e:h.objs.size<=a):H a=none:=by
 cases q:H a with
 | none=>rfl
 | some u=>exact absurd (nLl (x.lt q) e) (Nat.lt_irrefl _)
theorem HOk.kept(x:HOk P w H h)(k:∀ b u,h.get? b=some u->h'.get? b=some u):HOk P w H h':=λa o e =>
 (x a o e).stay (λb u _ q=>k b u q) (λ_ q=>q) λ_ _ q=>q
theorem HOk.laid(x:HOk P w H h)(k:∀ b u,h.get? b=some u->h'.get? b=some u)(hp:h.objs.size<=a)(new:zbz P w (upd H a o) h' a o):HOk P w (upd H a o) h':=λb u e=>by
 have hn:=x.fresh hp
 by_cases hb:b=a
 ·subst hb; rw[zal]at e; cases e; exact new
 ·rw[zak hb]at e
  exact(x b u e).stay (λc v _ q=>k c v q) (λc q=>by rw[zak (zap q hn)]; exact q) λc xs q=>by rw[zak (zap q hn)]; exact q
end
noncomputable def Rd(H:Hp)(a:Addr)(u:HO):Prop:=H a=some u∨∃ o,H a=some (.frz o u)
theorem Rd.ok{P:Program}{w:World}{H:Hp}{h:Heap}{a:Addr}{u:HO}(r:Rd H a u)(x:HOk P w H h):zbz P w H h a u:=by
 rcases r with r | ⟨o,r⟩
 ·exact x a u r
 ·obtain⟨_,q⟩:=x a _ r
  exact q
noncomputable def Mut:Option HO->Prop
 | some (.lst _)=>True
 | some (.dK _)=>True
 | some (.dT _)=>True
 | some (.set _ _)=>True
 | some (.ins _ _ _)=>True
 | some (.ext _)=>True
 | _=>False
section
variable {P:Program}{w:World}{H:Hp}{h h':Heap}{x e:Addr}{o':HO}
theorem HOk.write(ok:HOk P w H h)(mu:Mut (H x))(he:e=x∨H e=some (.own x))(k:∀ b u,b≠e->h.get? b=some u->h'.get? b=some u)(heo:∃ u,h'.get? e=some u)
  (new:zbz P w (upd H x o') h' x o'):HOk P w (upd H x o') h':=λb u q=>by
 have nown:∀ c y,H c=some (.own y)->c≠x:=λc y r z=>by subst z; rw[r]at mu; exact mu
 have ntup:∀ c xs,H c=some (.tup xs)->c≠x:=λc xs r z=>by subst z; rw[r]at mu; exact mu
 by_cases hb:b=x
 ·subst hb; rw[zal]at q; cases q; exact new
 ·rw[zak hb]at q
  by_cases hbe:b=e
  ·have q':H b=some (.own x):=by
    rcases he with z | z
    ·exact absurd (hbe.trans z) hb
    ·rw[hbe]; exact z
   rw[q]at q'; cases q'
   obtain⟨v,hv⟩:=heo
   exact⟨v,by rw[hbe]; exact hv⟩
  ·refine (ok b u q).stay (λc v hc r=>k c v ?_ r) (λc r=>by rw[zak (nown c b r)]; exact r) λc xs r=>by rw[zak (ntup c xs r)]; exact r
   rcases hc with rfl | hc
   ·exact hbe
   ·rintro rfl
    rcases he with z | z
    ·exact nown c b hc z
    ·rw[hc]at z; cases z; exact hb rfl
end
structure Un(fs ex:List Addr)(H H':Hp)(h h':Heap):Prop where
 keep:∀ b o,h.get? b=some o->H b=none->b∉fs->b∉ex->h'.get? b=some o
 slot:∀ b o,h.get? b=some o->H b=none->b∈fs->b∉ex->∃ sl,h'.get? b=some { o with slots:=sl }
 free:∀ b o,h.get? b=some o->H b=none->b∉ex->H' b=none
 there:∀ b o,h.get? b=some o->b∉ex->∃ o',h'.get? b=some o'
 tups:∀ b xs,H b=some (.tup xs)->H' b=some (.tup xs)
 frzs:∀ b o u,H b=some (.frz o u)->H' b=some (.frz o u)
 tbls:∀ b ps,H b=some (.tbl ps)->∃ more,H' b=some (.tbl (ps++more))
section
variable {fs fs' ex ex':List Addr}{H H1 H2:Hp}{h h1 h2 h':Heap}{a x e:Addr}{o:HO}
theorem Un.any(u:Un fs ex H H1 h h1){b:Addr}{ob:Obj}(q:h.get? b=some ob)(n:H b=none)(hx:b∉ex):∃ sl,h1.get? b=some { ob with slots:=sl }:=by
 by_cases hb:b∈fs
 ·exact u.slot b ob q n hb hx
 ·exact⟨ob.slots,u.keep b ob q n hb hx⟩
theorem Un.kept(k:∀ b u,h.get? b=some u->h'.get? b=some u):Un fs ex H H h h' :=
 ⟨λb ob q _ _ _=>k b ob q,λb ob q _ _ _=>⟨ob.slots,k b ob q⟩,λ_ _ _ n _=>n,λb ob q _=>⟨ob,k b ob q⟩,λ_ _ q=>q,λ_ _ _ q=>q,λ_ ps q=>⟨#[],by rw[q]; simp⟩⟩
theorem Un.refl:Un fs ex H H h h:=Un.kept λ_ _ q=>q
theorem Un.laid(k:∀ b u,h.get? b=some u->h'.get? b=some u)(hp:h.objs.size<=a)(hn:H a=none):Un fs ex H (upd H a o) h h' where
 keep:=λb u q _ _ _=>k b u q
 slot:=λb u q _ _ _=>⟨u.slots,k b u q⟩
 free:=λb u q n _=>by rw[zak (Nat.ne_of_lt (Nat.lt_of_lt_of_le (Heap.lt_size q) hp))]; exact n
 there:=λb u q _=>⟨u,k b u q⟩
 tups:=λb xs q=>by rw[zak (zap q hn)]; exact q
 frzs:=λb u xs q=>by rw[zak (zap q hn)]; exact q
 tbls:=λb ps q=>⟨#[],by rw[zak (zap q hn),q]; simp⟩
theorem Un.write(mu:Mut (H x))(he:e=x∨H e=some (.own x))(k:∀ b u,b≠e->h.get? b=some u->h'.get? b=some u)(heo:∃ u,h'.get? e=some u):Un fs ex H (upd H x o) h h':=by
 have hx:∀ b,H b=none->b≠x:=λb n z=>by subst z; rw[n]at mu; exact mu
 have hb:∀ b,H b=none->b≠e:=λb n z=>by
  subst z
  rcases he with r | r
  ·exact hx b n r
  ·rw[n]at r; cases r
 have hm:∀ b u,H b=some u->¬ Mut (some u)->b≠x:=λb u q nm z=>by subst z; rw[q]at mu; exact nm mu
 refine⟨λb u q n _ _=>k b u (hb b n) q,λb u q n _ _=>⟨u.slots,k b u (hb b n) q⟩,λb u q n _=>by rw[zak (hx b n)]; exact n,λb u q _=>?_,
  λb xs q=>by rw[zak (hm b _ q λz=>z)]; exact q,λb u xs q=>by rw[zak (hm b _ q λz=>z)]; exact q,λb ps q=>⟨#[],by rw[zak (hm b _ q λz=>z),q]; simp⟩⟩
 by_cases hbe:b=e
 ·subst hbe; exact heo
 ·exact⟨u,k b u hbe q⟩
end
noncomputable def trk(h:Heap)(H:Hp):List Addr:=(List.range h.objs.size).filter λa=>(H a).isSome
noncomputable def hidT(h:Heap)(H:Hp):Heap:=W.hideAll h (trk h H)
theorem hidT_size(h:Heap)(H:Hp):(hidT h H).objs.size=h.objs.size:=W.hideAll_size _ _
theorem zhn{h:Heap}{H:Hp}{b:Addr}{o:Obj}(e:h.get? b=some o)(n:H b=none):(hidT h H).get? b=some o :=
 W.hideAll_get _ e λhm=>by
  have q:(H b).isSome=true:=(List.mem_filter.mp hm).2
  rw[n]at q; simp at q
theorem of_hidT{h:Heap}{H:Hp}{b:Addr}{o:Obj}(e:(hidT h H).get? b=some o):h.get? b=some o/\H b=none:=by
 have e':h.get? b=some o:=W.of_hideAll (trk h H) e
 refine⟨e',?_⟩
 cases q:H b with
 | none=>rfl
 | some x =>
  have hm:b∈trk h H:=List.mem_filter.mpr ⟨List.mem_range.mpr (Heap.lt_size e'),by simp[q]⟩
  have z:(hidT h H).get? b=none:=W.hideAll_none (trk h H) hm
  rw[z]at e; cases e
noncomputable def allNews(g h:Heap)(L:Addr):List (Addr×Obj):=(List.range h.objs.size).filterMap λa=>if a=L∨(g.get? a).isSome=true then none else (h.get? a).map λo=>(a,o)
noncomputable def rest(g h:Heap)(L d:Addr):List (Addr×Obj):=(allNews g h L).filter λp=>decide (p.1≠d)
structure Mod(K:W.Frag)(mg:Str->Option Value)(base:Heap):Prop where
 kin:K.In base
 glob:base.Ns mainGlobals mg
 blt:∃ mb,base.Ns builtinsNs mb/\∀ x:Str,x≠"__name__"->mb x=bootBuiltins x
 nolimit:base.NoLimit
structure Cx where
 prog:Program
 w:World
 K:W.Frag
 mg:Str->Option Value
 base:Heap
 A:Around
 N:List Str
 s₀:Shared
 H₀:Hp
 env:Env
 outer:List Env
 stack:List Env
 ex:List Addr
 fn:Str->Bool
 calm:Bool
 pn:List (Addr×Obj)
 xe:Value->Shared->Prop
noncomputable def frs(l:List Env):List Addr:=l.filterMap (·.frame)
noncomputable abbrev Cx.fs(X:Cx):List Addr:=frs X.outer
noncomputable def Vis(sc:Scope)(x:Str):Prop:=sc.names.lookup x=some .local∨sc.names.lookup x=some .cell∨sc.names.lookup x=some .free
noncomputable def Loc(sc:Scope)(x:Str):Prop:=sc.names.lookup x=some .local∨sc.names.lookup x=some .cell
noncomputable def Look(env:Env)(h:Heap)(m:Str->Option Value)(x:Str)(u:Value):Prop :=
 (env.kindOf x=some .local/\m x=some u)∨((env.kindOf x=some .cell∨env.kindOf x=some .free)/\∃ c,env.cells.lookup x=some c/\h.IsCell c (some u))
structure Cx.Ok(X:Cx):Prop where
 mod:Mod X.K X.mg X.base
 kind:X.env.scope.kind=.function
 glob:X.env.globals=mainGlobals
 blt:X.env.builtins=builtinsNs
 above:X.s₀.heap.objs.size<=X.env.locals
 inj:∀ x y c,X.env.cells.lookup x=some c->X.env.cells.lookup y=some c->x=y
 has:∀ x,(X.env.kindOf x=some .cell∨X.env.kindOf x=some .free)->∃ c,X.env.cells.lookup x=some c
 cab:∀ x c,X.fn x=true->X.env.cells.lookup x=some c->X.s₀.heap.objs.size<=c
 hd:X.calm=true->X.A.handled=none
 frames:X.A.frames=some X.stack
 stk:X.stack=X.outer∨(X.stack=X.env::X.outer/\X.env.frame=some X.env.locals)
 exf:∀ b∈X.ex,b≠X.env.locals/\∀ x c,X.env.cells.lookup x=some c->c≠b
 bs:∀ b o,X.base.get? b=some o->X.s₀.heap.get? b=some o/\X.H₀ b=none
 bsz:X.base.objs.size<=X.s₀.heap.objs.size
 noex:∀ b o,X.base.get? b=some o->b∉X.ex
 exfs:∀ b∈X.ex,b∉X.fs
 funs:X.s₀.heap.FunFrames X.base X.outer
 frf:∀ b∈X.fs,X.H₀ b=none
structure Inv(X:Cx)(pins:List (Addr×Obj))(σ:List (Option V))(H:Hp)(s:Shared):Prop where
 ok:X.Ok
 os:s.os=X.s₀.os
 bare:AllBare s.gens
 base:Un X.fs X.ex X.H₀ H X.s₀.heap s.heap
 loc:∃ m,s.heap.Ns X.env.locals m/\∀ (i:Nat) (x:Str) (v:V),X.N[i]?=some x->σ[i]?=some (some v)->Vis X.env.scope x->∃ u,zaK v u/\Look X.env s.heap m x u
 cell:∀ x c,X.env.cells.lookup x=some c->∃ v,s.heap.IsCell c v
 free:H X.env.locals=none
 freeC:∀ x c,X.env.cells.lookup x=some c->H c=none
 pin:∀ p∈X.pn++pins,s.heap.get? p.1=some p.2/\H p.1=none/\p.1≠X.env.locals/\p.1∉X.fs/\∀ v,p.2.data≠.cell v
 hok:HOk X.prog X.w H s.heap
 len:σ.length=X.N.length
section
variable {X:Cx}{pins:List (Addr×Obj)}{σ:List (Option V)}{H H':Hp}{s:Shared}{h':Heap}
theorem Cx.Ok.nofr(ok:X.Ok){b:Addr}{o:Obj}(e:X.base.get? b=some o):b∉X.fs:=λhb=>by
 have:=(ok.funs.mem hb).1
 rw[e]at this; cases this
theorem Inv.bs(I:Inv X pins σ H s):∀ b o,X.base.get? b=some o->s.heap.get? b=some o/\H b=none:=λb o e =>
 ⟨I.base.keep b o (I.ok.bs b o e).1 (I.ok.bs b o e).2 (I.ok.nofr e) (I.ok.noex b o e),I.base.free b o (I.ok.bs b o e).1 (I.ok.bs b o e).2 (I.ok.noex b o e)⟩
theorem Inv.bk(I:Inv X pins σ H s):∀ b o,X.base.get? b=some o->s.heap.get? b=some o:=λb o e=>(I.bs b o e).1
theorem Inv.mod(I:Inv X pins σ H s):Mod X.K X.mg X.base:=I.ok.mod
theorem Inv.kIn(I:Inv X pins σ H s):X.K.In s.heap:=I.ok.mod.kin.keeps I.bk
theorem Inv.nolimit(I:Inv X pins σ H s):s.heap.NoLimit:=I.ok.mod.nolimit.keeps I.bk
theorem Inv.fr(I:Inv X pins σ H s):∃ m,Fr X.base X.env.locals s.heap m :=
 let ⟨m,hn,_⟩:=I.loc
 ⟨m,hn,I.bk,Nat.le_trans I.ok.bsz I.ok.above⟩
theorem Inv.lt(I:Inv X pins σ H s):X.env.locals < s.heap.objs.size:=let ⟨_,hn,_⟩:=I.loc; hn.lt
theorem Inv.sz(I:Inv X pins σ H s):X.s₀.heap.objs.size<=s.heap.objs.size:=Nat.le_trans I.ok.above (Nat.le_of_lt I.lt)
theorem Inv.nofs(I:Inv X pins σ H s){a:Addr}(h:s.heap.objs.size<=a):a∉X.fs:=λhb=>by
 obtain⟨_,o,ho,_⟩:=I.ok.funs.mem hb
 exact absurd (nLl (hLz ho) (Nat.le_trans I.sz h)) (Nat.lt_irrefl _)
theorem Inv.cne(I:Inv X pins σ H s):∀ x c,X.env.cells.lookup x=some c->c≠X.env.locals:=λx c e z=>by
 obtain⟨v,o,ho,hd⟩:=I.cell x c e
 obtain⟨m,⟨o',es,ep,ho',hd',_⟩,_⟩:=I.loc
 rw[z,ho']at ho; cases ho; rw[hd']at hd; cases hd
theorem Inv.funs(I:Inv X pins σ H s):s.heap.FunFrames X.base X.outer:=by
 have all:∀ (l:List Env),(∀ b∈frs l,b∈X.fs)->X.s₀.heap.FunFrames X.base l->s.heap.FunFrames X.base l:=by
  intro l
  induction l with
  | nil=>intro _ _; trivial
  | cons env r ih =>
   intro hs hl
   obtain⟨hk,⟨L,o,hf,hn,ho,hd⟩,hr⟩:=hl
   have hL:L∈X.fs:=hs L (by unfold frs; rw[List.filterMap_cons,hf]; exact List.mem_cons_self)
   obtain⟨sl,e⟩:=I.base.slot L o ho (I.ok.frf L hL) hL λz=>I.ok.exfs L z hL
   exact⟨hk,⟨L,_,hf,hn,e,hd⟩,ih (λb hb=>hs b (by unfold frs; rw[List.filterMap_cons,hf]; exact List.mem_cons_of_mem _ hb)) hr⟩
 exact all X.outer (λ_ hb=>hb) I.ok.funs
theorem Inv.stack(I:Inv X pins σ H s):s.heap.FunFrames X.base X.stack:=by
 rcases I.ok.stk with e | ⟨e,hf⟩
 ·rw[e]; exact I.funs
 ·rw[e]
  obtain⟨m,hn,_⟩:=I.loc
  refine .cons (by rw[I.ok.kind]; decide) hf hn ?_ I.funs
  exact Heap.get?_none_of_le (Nat.le_trans I.ok.bsz I.ok.above)
theorem Inv.stkSub(I:Inv X pins σ H s):∀ b∈frs X.stack,b∈X.env.locals::X.fs:=λb hb=>by
 rcases I.ok.stk with e | ⟨e,hf⟩
 ·rw[e]at hb; exact List.mem_cons_of_mem _ hb
 ·rw[e]at hb
  unfold frs at hb
  rw[List.filterMap_cons,hf]at hb
  exact hb
theorem Inv.stkFree(I:Inv X pins σ H s):∀ b∈frs X.stack,H b=none:=λb hb=>by
 rcases List.mem_cons.mp (I.stkSub b hb)with e | hb
 ·rw[e]; exact I.free
 ·obtain⟨_,o,ho,_⟩:=I.ok.funs.mem hb
  exact I.base.free b o ho (I.ok.frf b hb) λz=>I.ok.exfs b z hb
theorem Inv.step{g':Array GenState}{t':Nat}{d':Drawn}{ch:List Addr}(I:Inv X pins σ H s)
  (hch:∀ b∈ch,(b∈X.ex∨X.s₀.heap.objs.size<=b)/\b≠X.env.locals/\(∀ x c,X.env.cells.lookup x=some c->c≠b)/\∀ p∈X.pn++pins,p.1≠b)
  (keep:∀ b o,b≠X.env.locals->b∉X.fs->b∉ch->s.heap.get? b=some o->H b=none->h'.get? b=some o)
  (slot:∀ b o,b≠X.env.locals->b∈X.fs->b∉ch->s.heap.get? b=some o->H b=none->∃ sl,h'.get? b=some { o with slots:=sl }) (free:∀ b o,b∉ch->s.heap.get? b=some o->H b=none->H' b=none)
  (there:∀ b o,b∉ch->s.heap.get? b=some o->∃ o',h'.get? b=some o')
  (tups:∀ b xs,H b=some (.tup xs)->H' b=some (.tup xs)) (frzs:∀ b o u,H b=some (.frz o u)->H' b=some (.frz o u)) (tbls:∀ b ps,H b=some (.tbl ps)->∃ more,H' b=some (.tbl (ps++more)))
  (ns:∀ m,s.heap.Ns X.env.locals m->h'.Ns X.env.locals m) (hok:HOk X.prog X.w H' h') (hg:AllBare g') :
  Inv X pins σ H' { s with heap:=h',gens:=g',drawn:=d',toks:=t' }:=by
 have neL:∀ b o,X.s₀.heap.get? b=some o->b≠X.env.locals:=λb o e=>nNl (nLl (hLz e) I.ok.above)
 have neC:∀ b o,X.s₀.heap.get? b=some o->b∉X.ex->b∉ch:=λb o e hx hb=>by
  rcases (hch b hb).1 with z | z
  ·exact hx z
  ·exact absurd (nLl (hLz e) z) (Nat.lt_irrefl _)
 have cellK:∀ x c,X.env.cells.lookup x=some c->∀ v,s.heap.IsCell c v->h'.IsCell c v:=λx c e v hu=>by
  obtain⟨o,ho,hd⟩:=hu
  have nch:c∉ch:=λz=>(hch c z).2.2.1 x c e rfl
  by_cases hc:c∈X.fs
  ·obtain⟨sl,q⟩:=slot c o (I.cne x c e) hc nch ho (I.freeC x c e)
   exact⟨_,q,hd⟩
  ·exact⟨o,keep c o (I.cne x c e) hc nch ho (I.freeC x c e),hd⟩
 refine⟨I.ok,I.os,hg,⟨λb o e n hb hx=>?_,λb o e n hb hx=>?_,λb o e n hx=>?_,λb o e hx=>?_,λb xs e=>tups b xs (I.base.tups b xs e),λb o xs e=>frzs b o xs (I.base.frzs b o xs e),λb ps e=>?_⟩,?_,λx c e=>?_,?_,λx c e=>?_,λp hp=>?_,hok,I.len⟩
 ·exact keep b o (neL b o e) hb (neC b o e hx) (I.base.keep b o e n hb hx) (I.base.free b o e n hx)
 ·obtain⟨sl,e1⟩:=I.base.slot b o e n hb hx
  obtain⟨sl',e2⟩:=slot b _ (neL b o e) hb (neC b o e hx) e1 (I.base.free b o e n hx)
  exact⟨sl',e2⟩
 ·obtain⟨o',e1⟩:=I.base.there b o e hx
  exact free b o' (neC b o e hx) e1 (I.base.free b o e n hx)
 ·obtain⟨o',e1⟩:=I.base.there b o e hx
  exact there b o' (neC b o e hx) e1
 ·obtain⟨m1,e1⟩:=I.base.tbls b ps e
  obtain⟨m2,e2⟩:=tbls b _ e1
  exact⟨m1++m2,by rw[e2,Array.append_assoc]⟩
 ·obtain⟨m,hn,hl⟩:=I.loc
  refine⟨m,ns m hn,λi x v e1 e2 e3=>?_⟩
  obtain⟨u,r,l⟩:=hl i x v e1 e2 e3
  refine⟨u,r,?_⟩
  rcases l with l | ⟨k,c,e,z⟩
  ·exact .inl l
  ·exact .inr ⟨k,c,e,cellK x c e _ z⟩
 ·obtain⟨v,z⟩:=I.cell x c e
  exact⟨v,cellK x c e v z⟩
 ·obtain⟨m,⟨o,_,_,ho,_⟩,_⟩:=I.loc
  exact free _ o (λz=>(hch _ z).2.1 rfl) ho I.free
 ·obtain⟨v,o,ho,hd⟩:=I.cell x c e
  exact free c o (λz=>(hch c z).2.2.1 x c e rfl) ho (I.freeC x c e)
 ·obtain⟨e,n,ne,nf,d⟩:=I.pin p hp
  have nch:p.1∉ch:=λz=>(hch p.1 z).2.2.2 p hp rfl
  exact⟨keep p.1 p.2 ne nf nch e n,free p.1 p.2 nch e n,ne,nf,d⟩
theorem Inv.un{t':Nat}(I:Inv X pins σ H s)(u:Un X.fs [] H H' s.heap h')(hok:HOk X.prog X.w H' h'):Inv X pins σ H' { s with heap:=h',toks:=t' }:=by
 obtain⟨m,⟨o,es,ep,ho,r⟩,_⟩:=id I.loc
 obtain⟨sl,hL⟩:=u.any ho I.free (by simp)
 exact I.step (g':=s.gens) (d':=s.drawn) (ch:=[]) (λ_ z=>nomatch z) (λb o _ hb _ e n=>u.keep b o e n hb (by simp)) (λb o _ hb _ e n=>u.slot b o e n hb (by simp)) (λb o _ e n=>u.free b o e n (by simp)) (λb o _ e=>u.there b o e (by simp)) u.tups u.frzs u.tbls (λm' hm=>by
  obtain⟨o',es',ep',ho',r'⟩:=hm
  rw[ho]at ho'; cases ho'
  exact⟨_,es',ep',hL,r'⟩) hok I.bare
theorem Inv.call{g':Array GenState}{t':Nat}{d':Drawn}{ch:List Addr}(I:Inv X pins σ H s)(u:Un (frs X.stack) ch H H' s.heap h')(hok:HOk X.prog X.w H' h')(hg:AllBare g')
  (hch:∀ b∈ch,(b∈X.ex∨X.s₀.heap.objs.size<=b)/\b≠X.env.locals/\(∀ x c,X.env.cells.lookup x=some c->c≠b)/\∀ p∈X.pn++pins,p.1≠b) :
  Inv X pins σ H' { s with heap:=h',gens:=g',drawn:=d',toks:=t' }:=by
 obtain⟨m,⟨o,es,ep,ho,r⟩,_⟩:=id I.loc
 obtain⟨sl,hL⟩:=u.any ho I.free λz=>(hch _ z).2.1 rfl
 exact I.step (ch:=ch) hch (λb o hL hb hc e n=>u.keep b o e n (λz=>(List.mem_cons.mp (I.stkSub b z)).elim hL hb) hc) (λb o _ _ hc e n=>u.any e n hc) (λb o hc e n=>u.free b o e n hc) (λb o hc e=>u.there b o e hc) u.tups u.frzs u.tbls (λm' hm=>by
  obtain⟨o',es',ep',ho',r'⟩:=hm
  rw[ho]at ho'; cases ho'
  exact⟨_,es',ep',hL,r'⟩) hok hg
theorem Inv.turned{t':Nat}{it:Addr}(I:Inv X pins σ H s)(k:∀ b o,b≠it->s.heap.get? b=some o->h'.get? b=some o)(hn:H it=none)(hL:it≠X.env.locals)
  (h1:it∈X.ex∨X.s₀.heap.objs.size<=it) (h2:∀ x c,X.env.cells.lookup x=some c->c≠it) (h3:∀ p∈X.pn++pins,p.1≠it):Inv X pins σ H { s with heap:=h',toks:=t' }:=by
 have nit:∀ b u,H b=some u->b≠it:=λb u e z=>by rw[z,hn]at e; cases e
 refine I.step (g':=s.gens) (d':=s.drawn) (ch:=[it]) (λb hb=>?_) (λb o _ _ hc e _=>k b o (λz=>hc (by simp[z])) e) (λb o _ _ hc e _=>⟨o.slots,k b o (λz=>hc (by simp[z])) e⟩) (λ_ _ _ _ n=>n)
  (λb o hc e=>⟨o,k b o (λz=>hc (by simp[z])) e⟩) (λ_ _ e=>e) (λ_ _ _ e=>e) (λb ps e=>⟨#[],by rw[e]; simp⟩) (λm hm=>?_) (λb u e=>?_) I.bare
 ·have e:b=it:=by simpa using hb
  subst e
  exact⟨h1,hL,h2,h3⟩
 ·obtain⟨o,es,ep,ho,r⟩:=hm
  exact⟨o,es,ep,k _ o (Ne.symm hL) ho,r⟩
 ·refine (I.hok b u e).stay (λc v hc q=>k c v ?_ q) (λ_ q=>q) λ_ _ q=>q
  rcases hc with z | z
  ·rw[z]; exact nit b u e
  ·exact nit c _ z
theorem Inv.tok(I:Inv X pins σ H s)(t:Nat):Inv X pins σ H { s with toks:=t }:=I.un (h':=s.heap) (t':=t) Un.refl I.hok
theorem Inv.kept{t':Nat}(I:Inv X pins σ H s)(k:∀ b u,s.heap.get? b=some u->h'.get? b=some u):Inv X pins σ H { s with heap:=h',toks:=t' }:=I.un (Un.kept k) (I.hok.kept k)
theorem Inv.laid{a:Addr}{o:HO}{t':Nat}(I:Inv X pins σ H s)(k:∀ b u,s.heap.get? b=some u->h'.get? b=some u)(hp:s.heap.objs.size<=a)(new:zbz X.prog X.w (upd H a o) h' a o) :
  Inv X pins σ (upd H a o) { s with heap:=h',toks:=t' }:=I.un (Un.laid k hp (I.hok.fresh hp)) (I.hok.laid k hp new)
theorem Inv.write{x e:Addr}{o:HO}{t':Nat}(I:Inv X pins σ H s)(mu:Mut (H x))(he:e=x∨H e=some (.own x))(k:∀ b u,b≠e->s.heap.get? b=some u->h'.get? b=some u)(heo:∃ u,h'.get? e=some u)
  (new:zbz X.prog X.w (upd H x o) h' x o):Inv X pins σ (upd H x o) { s with heap:=h',toks:=t' }:=I.un (Un.write mu he k heo) (I.hok.write mu he k heo new)
theorem Inv.pins_of{pins':List (Addr×Obj)}(I:Inv X pins σ H s)(h:∀ p∈pins',s.heap.get? p.1=some p.2/\H p.1=none/\p.1≠X.env.locals/\p.1∉X.fs/\∀ v,p.2.data≠.cell v):Inv X pins' σ H s :=
 ⟨I.ok,I.os,I.bare,I.base,I.loc,I.cell,I.free,I.freeC,λp hp=>(List.mem_append.mp hp).elim (λz=>I.pin p (List.mem_append_left _ z)) (h p),I.hok,I.len⟩
theorem zhi{N:List Str}(hN:N.Nodup){i j:Nat}{x:Str}(a:N[i]?=some x)(b:N[j]?=some x):i=j:=by
 obtain⟨h1,e1⟩:=List.getElem?_eq_some_iff.mp a
 obtain⟨h2,e2⟩:=List.getElem?_eq_some_iff.mp b
 exact(List.getElem_inj hN).mp (e1.trans e2.symm)
theorem store_ok2{M:Model}{A:Around}{E:Value->Shared->Prop}{i:Nat}{x:Str}{v:V}{u:Value}{Q:Unit->Shared->Prop}(I:Inv X pins σ H s)(hN:X.N.Nodup)(hi:X.N[i]?=some x)(hx:Loc X.env.scope x)(r:zaK v u)
  (h:∀ s',Inv X pins (σ.set i (some v)) H s'->(∃ a,Heap.SameBut a s.heap s'.heap/\(a=X.env.locals∨X.env.cells.lookup x=some a))->Q () s') (hf:X.fn x=true∨X.env.scope.names.lookup x=some .local:=by first | exact .inl rfl | exact .inr rfl | assumption):wpAny M A (storeName X.env x u) Q E s:=by
 obtain⟨m,hn,hl⟩:=id I.loc
 have hcls:(X.env.scope.kind==.class||(X.env.scope.kind==.module&&X.env.locals != X.env.globals))=false:=by rw[I.ok.kind]; rfl
 have hiσ:i < σ.length:=by rw[I.len]; exact(List.getElem?_eq_some_iff.mp hi).1
 have cne:=I.cne
 have tracked:∀ {a:Addr} {h':Heap},(∃ o,s.heap.get? a=some o/\H a=none)->Heap.SameBut a s.heap h'->HOk X.prog X.w H h':=λ{a h'} ha hs b ob e=>by
  obtain⟨_,_,hfree⟩:=ha
  refine (I.hok b ob e).stay (λc w' hc q=>(hs.2 c ?_).trans q) (λ_ q=>q) λ_ _ q=>q
  rintro rfl
  rcases hc with rfl | hc
  ·rw[hfree]at e; cases e
  ·rw[hfree]at hc; cases hc
 rcases hx with hk | hk
 ·refine wpAny_storeName_local hk hn (λh' hn' hs=>?_) hcls
  obtain⟨oL,_,_,hoL,_⟩:=id hn
  refine h _ ⟨I.ok,I.os,I.bare,⟨λb o e n hb hx=>?_,λb o e n hb hx=>?_,I.base.free,λb o e hx=>?_,I.base.tups,I.base.frzs,I.base.tbls⟩,⟨_,hn',λj y v' e1 e2 e3=>?_⟩,λy c e=>?_,I.free,I.freeC,λp hp=>?_,tracked ⟨oL,hoL,I.free⟩ hs,by simpa using I.len⟩ ⟨_,hs,.inl rfl⟩
  ·exact(hs.2 b (nNl (nLl (hLz e) I.ok.above))).trans (I.base.keep b o e n hb hx)
  ·obtain⟨sl,e1⟩:=I.base.slot b o e n hb hx
   exact⟨sl,(hs.2 b (nNl (nLl (hLz e) I.ok.above))).trans e1⟩
  ·obtain⟨o',e1⟩:=I.base.there b o e hx
   exact⟨o',(hs.2 b (nNl (nLl (hLz e) I.ok.above))).trans e1⟩
  ·by_cases hj:j=i
   ·subst hj
    rw[hi]at e1; cases e1
    rw[List.getElem?_set_self hiσ]at e2
    cases e2
    exact⟨u,r,.inl ⟨hk,by simp⟩⟩
   ·rw[List.getElem?_set_ne (Ne.symm hj)]at e2
    obtain⟨u',r',q⟩:=hl j y v' e1 e2 e3
    refine⟨u',r',?_⟩
    rcases q with ⟨k,e⟩ | ⟨k,c,e,z⟩
    ·refine .inl ⟨k,?_⟩
     have:y≠x:=λe=>hj (zhi hN e1 (e ▸ hi))
     simp[this,e]
    ·exact .inr ⟨k,c,e,z.sameBut hs (cne y c e)⟩
  ·obtain⟨w',z⟩:=I.cell y c e
   exact⟨w',z.sameBut hs (cne y c e)⟩
  ·obtain⟨e,n,ne,nf,d⟩:=I.pin p hp
   exact⟨(hs.2 p.1 ne).trans e,n,ne,nf,d⟩
 ·have hfn:X.fn x=true:=by
   rcases hf with z | z
   ·exact z
   ·rw[z]at hk; cases hk
  obtain⟨c,hc⟩:=I.ok.has x (.inl hk)
  obtain⟨w',z⟩:=I.cell x c hc
  refine wpAny_storeName_cell I.ok.kind hk hc z (λh' hc' hs=>?_)
  obtain⟨oc,hoc,hocd⟩:=id z
  refine h { s with heap:=h' } ⟨I.ok,I.os,I.bare,⟨λb o e n hb hx=>?_,λb o e n hb hx=>?_,I.base.free,λb o e hx=>?_,I.base.tups,I.base.frzs,I.base.tbls⟩,⟨m,hn.sameBut hs (Ne.symm (cne x c hc)),λj y v' e1 e2 e3=>?_⟩,λy c' e=>?_,I.free,I.freeC,λp hp=>?_,tracked ⟨oc,hoc,I.freeC x c hc⟩ hs,by simpa using I.len⟩ ⟨c,hs,.inr hc⟩
  ·exact(hs.2 b (nNl (nLl (hLz e) (I.ok.cab x c hfn hc)))).trans (I.base.keep b o e n hb hx)
  ·obtain⟨sl,e1⟩:=I.base.slot b o e n hb hx
   exact⟨sl,(hs.2 b (nNl (nLl (hLz e) (I.ok.cab x c hfn hc)))).trans e1⟩
  ·obtain⟨o',e1⟩:=I.base.there b o e hx
   exact⟨o',(hs.2 b (nNl (nLl (hLz e) (I.ok.cab x c hfn hc)))).trans e1⟩
  ·by_cases hj:j=i
   ·subst hj
    rw[hi]at e1; cases e1
    rw[List.getElem?_set_self hiσ]at e2
    cases e2
    exact⟨u,r,.inr ⟨.inl hk,c,hc,hc'⟩⟩
   ·rw[List.getElem?_set_ne (Ne.symm hj)]at e2
    obtain⟨u',r',q⟩:=hl j y v' e1 e2 e3
    refine⟨u',r',?_⟩
    rcases q with q | ⟨k,c',e,z'⟩
    ·exact .inl q
    ·refine .inr ⟨k,c',e,z'.sameBut hs ?_⟩
     rintro rfl
     exact hj (zhi hN e1 (I.ok.inj _ _ _ e hc ▸ hi))
  ·by_cases hcc:c'=c
   ·subst hcc; exact⟨_,hc'⟩
   ·obtain⟨w2,z2⟩:=I.cell y c' e
    exact⟨w2,z2.sameBut hs hcc⟩
  ·obtain⟨e,n,ne,nf,d⟩:=I.pin p hp
   refine⟨(hs.2 p.1 ?_).trans e,n,ne,nf,d⟩
   intro q
   rw[q,hoc]at e
   have q':oc=p.2:=Option.some.inj e
   exact d w' (by rw[<- q']; exact hocd)
theorem zgR{M:Model}{A:Around}{E:Value->Shared->Prop}{i:Nat}{x:Str}{v:V}{u:Value}{Q:Unit->Shared->Prop}(I:Inv X pins σ H s)(hN:X.N.Nodup)(hi:X.N[i]?=some x)(hx:Loc X.env.scope x)(r:zaK v u)
  (h:∀ s',Inv X pins (σ.set i (some v)) H s'->Q () s') (hf:X.fn x=true∨X.env.scope.names.lookup x=some .local:=by first | exact .inl rfl | exact .inr rfl | assumption):wpAny M A (storeName X.env x u) Q E s :=
 store_ok2 I hN hi hx r (λs' I' _=>h s' I') hf
theorem Inv.call'{s':Shared}{ch:List Addr}(I:Inv X pins σ H s)(ho:s'.os=s.os)(u:Un (frs X.stack) ch H H' s.heap s'.heap)(hok:HOk X.prog X.w H' s'.heap)(hg:AllBare s'.gens)
  (hch:∀ b∈ch,(b∈X.ex∨X.s₀.heap.objs.size<=b)/\b≠X.env.locals/\(∀ x c,X.env.cells.lookup x=some c->c≠b)/\∀ p∈X.pn++pins,p.1≠b):Inv X pins σ H' s':=by
 obtain⟨h',g',d',t',o'⟩:=s'
 have e:o'=s.os:=ho
 subst e
 exact I.call (g':=g') (t':=t') (d':=d') u hok hg hch
end
noncomputable abbrev XK:=Value->Option Addr->Hp->Prop
noncomputable abbrev St:=List (Option V)
noncomputable abbrev VK:=V->Hp->Prop
noncomputable abbrev TE:=St->Hp->VK->Prop
noncomputable abbrev TT:=St->Hp->(Bool->Hp->Prop)->Prop
noncomputable abbrev TA:=St->Hp->(List V->Hp->Prop)->Prop
structure Ends where
 nx:St->Hp->Prop
 rt:VK
 bk:St->Hp->Prop:=λ_ _=>False
 ct:St->Hp->Prop:=λ_ _=>False
noncomputable abbrev TS:=Ends->St->Hp->Prop
noncomputable def EP(X:Cx)(pins:List (Addr×Obj))(σ:St)(Q:VK)(u:Value)(s':Shared):Prop:=∃ v H',Inv X pins σ H' s'/\zaK v u/\Q v H'
noncomputable def TP(X:Cx)(pins:List (Addr×Obj))(σ:St)(Q:Bool->Hp->Prop)(b:Bool)(s':Shared):Prop:=∃ H',Inv X pins σ H' s'/\Q b H'
noncomputable def AP(X:Cx)(pins:List (Addr×Obj))(σ:St)(Q:List V->Hp->Prop)(us:List Value)(s':Shared):Prop:=∃ vs H',Inv X pins σ H' s'/\zaM vs us/\Q vs H'
noncomputable def SP(X:Cx)(pins:List (Addr×Obj))(D:Ends)(f:Flow)(s':Shared):Prop :=
 match f with
 | .next=>∃ σ' H',Inv X pins σ' H' s'/\D.nx σ' H'
 | .brk=>∃ σ' H',Inv X pins σ' H' s'/\D.bk σ' H'
 | .cont=>∃ σ' H',Inv X pins σ' H' s'/\D.ct σ' H'
 | .ret u=>∃ v σ' H',Inv X pins σ' H' s'/\zaK v u/\D.rt v H'
noncomputable def PE(X:Cx)(e:Expr)(t:TE):Prop :=
 ∀ (pins:List (Addr×Obj)) (s:Shared) (σ:St) (H:Hp) (Q:VK),Inv X pins σ H s->t σ H Q->wpAny (model X.prog X.w) X.A (eval e X.env) (EP X pins σ Q) X.xe s
noncomputable def PT(X:Cx)(e:Expr)(t:TT):Prop :=
 ∀ (pins:List (Addr×Obj)) (s:Shared) (σ:St) (H:Hp) (Q:Bool->Hp->Prop),Inv X pins σ H s->t σ H Q->wpAny (model X.prog X.w) X.A (isTrue e X.env (eval e X.env)) (TP X pins σ Q) X.xe s
noncomputable def PW(X:Cx)(e:Expr)(t:TT):Prop :=
 ∀ (whole:Sem Value) (pins:List (Addr×Obj)) (s:Shared) (σ:St) (H:Hp) (Q:Bool->Hp->Prop),Inv X pins σ H s->t σ H Q->wpAny (model X.prog X.w) X.A (isTrue e X.env whole) (TP X pins σ Q) X.xe s
theorem PW.pt{X:Cx}{e:Expr}{t:TT}(h:PW X e t):PT X e t:=h _
noncomputable def PA(X:Cx)(es:List Expr)(t:TA):Prop :=
 ∀ (pos:Pos) (pins:List (Addr×Obj)) (s:Shared) (σ:St) (H:Hp) (Q:List V->Hp->Prop),Inv X pins σ H s->t σ H Q->wpAny (model X.prog X.w) X.A (spliced (backTo pos (starEach es X.env))) (AP X pins σ Q) X.xe s
noncomputable def PS(X:Cx)(st:Stmt)(t:TS):Prop :=
 ∀ (pins:List (Addr×Obj)) (s:Shared) (σ:St) (H:Hp) (D:Ends),Inv X pins σ H s->t D σ H->wpAny (model X.prog X.w) X.A (exec st X.env) (SP X pins D) X.xe s
noncomputable def PSs(X:Cx)(st:List Stmt)(t:TS):Prop :=
 ∀ (pins:List (Addr×Obj)) (s:Shared) (σ:St) (H:Hp) (D:Ends),Inv X pins σ H s->t D σ H->wpAny (model X.prog X.w) X.A (execs st X.env) (SP X pins D) X.xe s
theorem thn{α:Type}{t:Sem α}{Q Q':α->Shared->Prop}{M:Model}{A:Around}{E:Value->Shared->Prop}{s:Shared}(h:wpAny M A t Q E s)(hQ:∀ a s,Q a s->Q' a s):wpAny M A t Q' E s:=wpAny_mono h hQ λ_ _ x=>x
section
variable {X:Cx}
noncomputable def tVar(i:Nat):TE:=λσ H Q=>∃ v,σ[i]?=some (some v)/\Q v H
noncomputable def tC(v:V):TE:=λ_ H Q=>Q v H
theorem pe_var{i:Nat}{x:Str}{pos:Pos}(hN:X.N[i]?=some x)(hv:Vis X.env.scope x)(hd:(x==("__debug__":Str))=false:=by decide) (hcd:(x==("__classdict__":Str))=false:=by decide):PE X (.Name x pos) (tVar i):=by
 intro pins s σ H Q I h
 obtain⟨v,e,h⟩:=h
 obtain⟨m,hn,hl⟩:=I.loc
 obtain⟨u,r,l⟩:=hl i x v hN e hv
 have fin:EP X pins σ Q u s:=⟨v,H,I,r,h⟩
 rcases l with ⟨hk,hm⟩ | ⟨hk,c,hc,hcell⟩
 ·exact wpAny_Name (wpAny_loadName_local I.ok.kind hk hn hm fin) hd
 ·rcases hk with hk | hk
  ·exact wpAny_Name (wpAny_loadName_cell I.ok.kind hk hc hcell fin) hd
  ·exact wpAny_Name (wpAny_loadName_free I.ok.kind hk hc hcell fin hcd) hd
theorem pe_int{i j pos}:PE X (.Constant (.int i) j pos) (tC (.int i)):=λ_ _ _ H _ I h=>wpAny_Constant_int ⟨.int i,H,I.tok _,⟨_,rfl⟩,h⟩
theorem pe_bl{b j pos}:PE X (.Constant (.bool b) j pos) (tC (.bl b)):=λ_ _ _ H _ I h=>Constant_bool ⟨.bl b,H,I,rfl,h⟩
theorem pe_non{j pos}:PE X (.Constant .none j pos) (tC .non):=λ_ _ _ H _ I h=>Constant_none ⟨.non,H,I,rfl,h⟩
theorem pe_str{x j pos}:PE X (.Constant (.str x) j pos) (tC (.str x)):=λ_ _ _ H _ I h=>Calls.Constant_str ⟨.str x,H,I.tok _,⟨_,rfl⟩,h⟩
noncomputable def Gl(X:Cx)(x:Str):Prop:=X.env.kindOf x=some .globalImplicit
theorem zd5{E:Value->Shared->Prop}{pins:List (Addr×Obj)}{s:Shared}{σ:St}{H:Hp}{x:Str}{u:Value}{pos:Pos}{Q:Value->Shared->Prop}(I:Inv X pins σ H s)(hg:Gl X x)(hm:X.mg x=some u)(h:Q u s)
  (hd:(x==("__debug__":Str))=false:=by decide):wpAny (model X.prog X.w) X.A (eval (.Name x pos) X.env) Q E s :=
 Calls.Name_function_global I.ok.kind hg (Calls.loadGlobal_global (by rw[I.ok.glob]; exact I.mod.glob.keeps I.bk) hm h) hd
theorem ze2{E:Value->Shared->Prop}{pins:List (Addr×Obj)}{s:Shared}{σ:St}{H:Hp}{x:Str}{u:Value}{pos:Pos}{Q:Value->Shared->Prop}(I:Inv X pins σ H s)(hg:Gl X x)(hm:X.mg x=none)(hv:bootBuiltins x=some u)(h:Q u s)
  (hn:x≠"__name__":=by decide) (hd:(x==("__debug__":Str))=false:=by decide):wpAny (model X.prog X.w) X.A (eval (.Name x pos) X.env) Q E s:=by
 obtain⟨mb,h1,h2⟩:=I.mod.blt
 exact Calls.Name_function_global I.ok.kind hg (Calls.loadGlobal_builtin (by rw[I.ok.glob]; exact I.mod.glob.keeps I.bk) hm (by rw[I.ok.blt]; exact h1.keeps I.bk) ((h2 x hn).trans hv) h) hd
theorem pe_glob{x:Str}{v:V}{u:Value}{pos:Pos}(hg:Gl X x)(hm:X.mg x=some u)(r:zaK v u)(hd:(x==("__debug__":Str))=false:=by decide):PE X (.Name x pos) (tC v) :=
 λ_ _ _ H _ I h=>zd5 I hg hm ⟨v,H,I,r,h⟩ hd
theorem pe_bltn{x:Str}{v:V}{u:Value}{pos:Pos}(hg:Gl X x)(hm:X.mg x=none)(hv:bootBuiltins x=some u)(r:zaK v u)(hn:x≠"__name__":=by decide) (hd:(x==("__debug__":Str))=false:=by decide):PE X (.Name x pos) (tC v) :=
 λ_ _ _ H _ I h=>ze2 I hg hm hv ⟨v,H,I,r,h⟩ hn hd
variable {a b:Expr}{ta tb:TE}{pos:Pos}
noncomputable def tB(t:TE):TT:=λσ H Q=>t σ H λx H1=>∃ c,x=.bl c/\Q c H1
variable {tA tB':TT}{rest:List Expr}
noncomputable def tAnd(t u:TT):TT:=λσ H Q=>t σ H λc H1=>if c=true then u σ H1 Q else Q false H1
noncomputable def tOr(t u:TT):TT:=λσ H Q=>t σ H λc H1=>if c=true then Q true H1 else u σ H1 Q
noncomputable def tNot(t:TT):TT:=λσ H Q=>t σ H λc H1=>Q (!c) H1
theorem pw_and1(ha:PT X a tA):PW X (.BoolOp .And [a] pos) tA:=by
 intro wh pins s σ H Q I h
 refine isTrue_and (thn (ha pins s σ H Q I h) λc s1 e=>?_)
 cases c with
 | true=>exact isTrue_and_nil e
 | false=>exact e
theorem pw_or1(ha:PT X a tA):PW X (.BoolOp .Or [a] pos) tA:=by
 intro wh pins s σ H Q I h
 refine isTrue_or (thn (ha pins s σ H Q I h) λc s1 e=>?_)
 cases c with
 | false=>exact isTrue_or_nil e
 | true=>exact e
theorem pw_and(ha:PT X a tA)(hb:PW X (.BoolOp .And (b::rest) pos) tB'):PW X (.BoolOp .And (a::b::rest) pos) (tAnd tA tB'):=by
 intro wh pins s σ H Q I h
 refine isTrue_and (thn (ha pins s σ H _ I h) λc s1 ⟨H1,I1,q1⟩=>?_)
 cases c with
 | true=>exact hb wh pins s1 σ H1 Q I1 q1
 | false=>exact⟨H1,I1,q1⟩
theorem pw_or(ha:PT X a tA)(hb:PW X (.BoolOp .Or (b::rest) pos) tB'):PW X (.BoolOp .Or (a::b::rest) pos) (tOr tA tB'):=by
 intro wh pins s σ H Q I h
 refine isTrue_or (thn (ha pins s σ H _ I h) λc s1 ⟨H1,I1,q1⟩=>?_)
 cases c with
 | true=>exact⟨H1,I1,q1⟩
 | false=>exact hb wh pins s1 σ H1 Q I1 q1
theorem pt_not(ha:PT X a tA):PT X (.UnaryOp .Not a pos) (tNot tA):=by
 intro pins s σ H Q I h
 exact isTrue_not (ha pins s σ H (λc H1=>Q (!c) H1) I h)
end
noncomputable def SqL(K:W.Frag)(H:Hp)(a:Addr)(xs:List V):Prop :=
 Rd H a (.lst xs) ∨
  ∃ (o:Obj) (its:Array Value) (n:Nat),K.lookup a=some o/\o.cls=.type "list"/\o.dict=none/\o.data=.seq its n/\its.size<=sizeLine/\zaM xs its.toList
noncomputable def SqT(K:W.Frag)(H:Hp)(a:Addr)(xs:List V):Prop :=
 Rd H a (.tup xs) ∨
  ∃ (o:Obj) (its:Array Value) (n:Nat),K.lookup a=some o/\o.cls=.type "tuple"/\o.data=.seq its n/\its.size<=sizeLine/\zaM xs its.toList
noncomputable def absV:Value->Option V
 | .none=>some .non
 | .bool b=>some (.bl b)
 | .int i _=>some (.int i)
 | .str x _=>some (.str x)
 | .bytes b _=>some (.byt b)
 | .float b _=>some (.flt b)
 | .ref a=>some (.ref a)
 | .type n=>some (.ty n)
 | _=>none
theorem zaK.abs{x:V}{u:Value}(r:zaK x u):absV u=some x:=by
 cases x with
 | non=>cases r; rfl
 | bl _=>cases r; rfl
 | int _=>obtain⟨t,rfl⟩:=r; rfl
 | str _=>obtain⟨t,rfl⟩:=r; rfl
 | byt _=>obtain⟨t,rfl⟩:=r; rfl
 | flt _=>obtain⟨t,rfl⟩:=r; rfl
 | ref _=>cases r; rfl
 | ty _=>cases r; rfl
theorem zaK.inj{x y:V}{u:Value}(r:zaK x u)(q:zaK y u):x=y:=Option.some.inj (r.abs.symm.trans q.abs)
theorem zaM.inj:∀ {xs ys:List V} {us:List Value},zaM xs us->zaM ys us->xs=ys
 | _,_,_,.nil,.nil=>rfl
 | _,_,_,.cons r t,.cons r' t'=>by rw[r.inj r',zaM.inj t t']
section
variable {X:Cx}{pins:List (Addr×Obj)}{σ:St}{H:Hp}{s:Shared}{a:Addr}{xs ys:List V}
theorem SqL.of{K:W.Frag}(h:H a=some (.lst xs)):SqL K H a xs:=.inl (.inl h)
theorem SqT.of{K:W.Frag}(h:H a=some (.tup xs)):SqT K H a xs:=.inl (.inl h)
theorem Inv.list(I:Inv X pins σ H s)(h:SqL X.K H a xs):∃ its:List Value,zaM xs its/\PlainL s.heap a its.toArray/\xs.length<=sizeLine:=by
 rcases h with h | ⟨o,its,n,hk,hc,hd,hs,hz,r⟩
 ·obtain⟨z,its,n,r,e⟩:=h.ok I.hok
  exact⟨its,r,⟨_,n,e,rfl,rfl,rfl⟩,z⟩
 ·refine⟨its.toList,r,⟨o,n,I.kIn a o hk,hc,hd,by simpa using hs⟩,?_⟩
  have e:=r.length
  simp only[Array.length_toList]at e
  lia
theorem Inv.tuple(I:Inv X pins σ H s)(h:SqT X.K H a xs):∃ its:List Value,zaM xs its/\IsTup s.heap a its.toArray/\xs.length<=sizeLine:=by
 rcases h with h | ⟨o,its,n,hk,hc,hs,hz,r⟩
 ·obtain⟨z,its,r,p⟩:=h.ok I.hok
  exact⟨its,r,p,z⟩
 ·refine⟨its.toList,r,⟨o,I.kIn a o hk,hc,n,by simpa using hs⟩,?_⟩
  have e:=r.length
  simp only[Array.length_toList]at e
  lia
theorem Inv.list_inj(I:Inv X pins σ H s)(h:SqL X.K H a xs)(h':SqL X.K H a ys):xs=ys:=by
 obtain⟨its,r,⟨o,n,e,_,_,d⟩,_⟩:=I.list h
 obtain⟨its',r',⟨o',n',e',_,_,d'⟩,_⟩:=I.list h'
 rw[e]at e'; cases e'
 rw[d]at d'
 injection d' with d1 _
 have:its=its':=by simpa using congrArg Array.toList d1
 subst this
 exact r.inj r'
theorem Inv.tuple_inj(I:Inv X pins σ H s)(h:SqT X.K H a xs)(h':SqT X.K H a ys):xs=ys:=by
 obtain⟨its,r,⟨o,e,_,n,d⟩,_⟩:=I.tuple h
 obtain⟨its',r',⟨o',e',_,n',d'⟩,_⟩:=I.tuple h'
 rw[e]at e'; cases e'
 rw[d]at d'
 injection d' with d1 _
 have:its=its':=by simpa using congrArg Array.toList d1
 subst this
 exact r.inj r'
end
noncomputable abbrev Cx.wish(X:Cx)(E:Value->Shared->Prop):Cx:={ X with xe:=E }
noncomputable abbrev Cx.nox(X:Cx):Cx:=X.wish λ_ _=>False
theorem Cx.Ok.wish{X:Cx}(ok:X.Ok)(E:Value->Shared->Prop):(X.wish E).Ok :=
 ⟨ok.mod,ok.kind,ok.glob,ok.blt,ok.above,ok.inj,ok.has,ok.cab,ok.hd,ok.frames,ok.stk,ok.exf,ok.bs,ok.bsz,ok.noex,ok.exfs,ok.funs,ok.frf⟩
theorem Cx.Ok.unwish{X:Cx}{E:Value->Shared->Prop}(ok:(X.wish E).Ok):X.Ok :=
 ⟨ok.mod,ok.kind,ok.glob,ok.blt,ok.above,ok.inj,ok.has,ok.cab,ok.hd,ok.frames,ok.stk,ok.exf,ok.bs,ok.bsz,ok.noex,ok.exfs,ok.funs,ok.frf⟩
section
variable {X:Cx}{pins:List (Addr×Obj)}{σ:St}{H:Hp}{s:Shared}{E:Value->Shared->Prop}
theorem Inv.wish(I:Inv X pins σ H s)(E:Value->Shared->Prop):Inv (X.wish E) pins σ H s:=⟨I.ok.wish E,I.os,I.bare,I.base,I.loc,I.cell,I.free,I.freeC,I.pin,I.hok,I.len⟩
theorem Inv.unwish(I:Inv (X.wish E) pins σ H s):Inv X pins σ H s:=⟨I.ok.unwish,I.os,I.bare,I.base,I.loc,I.cell,I.free,I.freeC,I.pin,I.hok,I.len⟩
theorem SP.unwish{D:Ends}{f:Flow}{s':Shared}(h:SP (X.wish E) pins D f s'):SP X pins D f s':=by
 cases f with
 | next=>obtain⟨σ',H',I,q⟩:=h; exact⟨σ',H',I.unwish,q⟩
 | brk=>obtain⟨σ',H',I,q⟩:=h; exact⟨σ',H',I.unwish,q⟩
 | cont=>obtain⟨σ',H',I,q⟩:=h; exact⟨σ',H',I.unwish,q⟩
 | ret u=>obtain⟨v,σ',H',I,r,q⟩:=h; exact⟨v,σ',H',I.unwish,r,q⟩
theorem PSs.nox{st:List Stmt}{t:TS}(h:PSs X.nox st t):PSs X st t:=λpins s σ H D I hw =>
 wpAny_mono (h pins s σ H D (I.wish _) hw) (λ_ _ q=>q.unwish) λ_ _ z=>False.elim z
end
section
variable {X:Cx}{st:Stmt}{rest:List Stmt}{t u:TS}{e:Expr}{te:TE}{pos:Pos}
noncomputable def tNext:TS:=λD σ H=>D.nx σ H
noncomputable def tSeq(t u:TS):TS:=λD σ H=>t { D with nx:=u D } σ H
theorem pss_nil:PSs X [] tNext:=λ_ _ σ H _ I h=>wpAny_execs_nil ⟨σ,H,I,h⟩
theorem pss_cons(h1:PS X st t)(h2:PSs X rest u):PSs X (st::rest) (tSeq t u):=by
 intro pins s σ H D I h
 refine wpAny_execs_cons (thn (h1 pins s σ H { D with nx:=u D } I h) λf s1 q=>?_)
 cases f with
 | next =>
  obtain⟨σ',H',I',q⟩:=q
  exact h2 pins s1 σ' H' D I' q
 | ret v=>exact q
 | brk=>exact q
 | cont=>exact q
theorem pss_one(h1:PS X st t):PSs X [st] t:=by
 intro pins s σ H D I h
 refine wpAny_execs_cons (thn (h1 pins s σ H D I h) λf s1 q=>?_)
 cases f with
 | next=>exact wpAny_execs_nil q
 | ret v=>exact q
 | brk=>exact q
 | cont=>exact q
theorem Inv.quiet{pins:List (Addr×Obj)}{σ:St}{H:Hp}{s:Shared}(I:Inv X pins σ H s):interactive X.env=false:=by simp[interactive,I.ok.kind]
noncomputable def tDrop(te:TE):TS:=λD σ H=>te σ H λ_ H1=>D.nx σ H1
theorem ps_expr(he:PE X e te)(hs:swapsWith e none pos.line X.env=pure false:=by rfl):PS X (.Expr e pos) (tDrop te):=by
 intro pins s σ H D I h
 exact wpAny_Expr_any (thn (he pins s σ H _ I h) λv s1 hu=>(by obtain⟨x,H1,I1,r1,q1⟩:=hu; exact⟨σ,H1,I1,q1⟩)) I.quiet hs
noncomputable def tRet(te:TE):TS:=λD σ H=>te σ H D.rt
theorem ps_ret(he:PE X e te):PS X (.Return (some e) pos) (tRet te):=by
 intro pins s σ H D I h
 exact wpAny_Return_some (thn (he pins s σ H _ I h) λv s1 hu=>(by obtain⟨x,H1,I1,r1,q1⟩:=hu; exact⟨x,σ,H1,I1,r1,q1⟩))
noncomputable def tRetN:TS:=λD _ H=>D.rt .non H
theorem ps_retN:PS X (.Return none pos) tRetN:=λ_ _ σ H _ I h=>wpAny_Return_none ⟨.non,σ,H,I,rfl,h⟩
noncomputable def tIfS(c:TT)(t u:TS):TS:=λD σ H=>c σ H λb H1=>if b=true then t D σ H1 else u D σ H1
theorem ps_if{c:Expr}{a b:List Stmt}{tc:TT}(hc:PT X c tc)(ha:PSs X a t)(hb:PSs X b u):PS X (.If c a b pos) (tIfS tc t u):=by
 intro pins s σ H D I h
 refine wpAny_If (thn (hc pins s σ H _ I h) λd s1 ⟨H1,I1,q1⟩=>?_)
 cases d with
 | true=>exact ha pins s1 σ H1 D I1 q1
 | false=>exact hb pins s1 σ H1 D I1 q1
noncomputable def tNever:TS:=λ_ _ _=>False
theorem ps_never:PS X st tNever:=λ_ _ _ _ _ _ h=>h.elim
theorem pss_never{sts:List Stmt}:PSs X sts tNever:=λ_ _ _ _ _ _ h=>h.elim
end
noncomputable abbrev TG:=V->St->Hp->(St->Hp->Prop)->Prop
noncomputable abbrev TGs:=List V->St->Hp->(St->Hp->Prop)->Prop
noncomputable def PG(X:Cx)(target:Expr)(t:TG):Prop :=
 ∀ (pins:List (Addr×Obj)) (s:Shared) (σ:St) (H:Hp) (v:V) (u:Value) (Q:St->Hp->Prop),Inv X pins σ H s->zaK v u->t v σ H Q ->
  wpAny (model X.prog X.w) X.A (assign target X.env u) (λ_ s'=>∃ σ' H',Inv X pins σ' H' s'/\Q σ' H') X.xe s
noncomputable def PGs(X:Cx)(ts:List Expr)(t:TGs):Prop :=
 ∀ (pins:List (Addr×Obj)) (s:Shared) (σ:St) (H:Hp) (vs:List V) (us:List Value) (Q:St->Hp->Prop),Inv X pins σ H s->zaM vs us->t vs σ H Q ->
  wpAny (model X.prog X.w) X.A (assignInOrder ((assignEach ts X.env).map (·.2)) us) (λ_ s'=>∃ σ' H',Inv X pins σ' H' s'/\Q σ' H') X.xe s
noncomputable abbrev TSet:=V->V->V->Hp->(Hp->Prop)->Prop
noncomputable def PSet(X:Cx)(t:TSet):Prop :=
 ∀ (pins:List (Addr×Obj)) (s:Shared) (σ:St) (H:Hp) (o i v:V) (ov iv u:Value) (Q:Hp->Prop),Inv X pins σ H s->zaK o ov->zaK i iv->zaK v u->t o i v H Q ->
  wpAny (model X.prog X.w) X.A (setItem ov iv u) (λ_ s'=>∃ H',Inv X pins σ H' s'/\Q H') X.xe s
section
variable {X:Cx}{pos:Pos}
noncomputable def gName(i:Nat):TG:=λv σ H Q=>Q (σ.set i (some v)) H
theorem pg_name{i:Nat}{x:Str}(hN:X.N.Nodup)(hi:X.N[i]?=some x)(hx:Loc X.env.scope x)(hf:X.fn x=true∨X.env.scope.names.lookup x=some .local:=by first | exact .inl rfl | exact .inr rfl | assumption):PG X (.Name x pos) (gName i):=by
 intro pins s σ H v u Q I r h
 exact wpAny_assign_Name (zgR I hN hi hx r (λs' I'=>⟨_,H,I',h⟩) hf)
noncomputable def gNil:TGs:=λvs σ H Q=>vs=[]/\Q σ H
noncomputable def gCons(t:TG)(u:TGs):TGs:=λvs σ H Q=>∃ v r,vs=v::r/\t v σ H λσ' H'=>u r σ' H' Q
theorem pgs_nil:PGs X [] gNil:=by
 intro pins s σ H vs us Q I r h
 obtain⟨e,h⟩:=h
 subst e
 cases r
 exact assignInOrder_nil ⟨σ,H,I,h⟩
theorem pgs_cons{e:Expr}{es:List Expr}{t:TG}{u:TGs}(h1:PG X e t)(h2:PGs X es u)
  (hs:(assignEach (e::es) X.env).map (·.2)=assign e X.env::(assignEach es X.env).map (·.2):=by rfl):PGs X (e::es) (gCons t u):=by
 intro pins s σ H vs us Q I r h
 obtain⟨v,vr,e1,h⟩:=h
 subst e1
 cases r with
 | cons r rr =>
  rw[hs]
  refine assignInOrder_cons (thn (h1 pins s σ H _ _ _ I r h) λ_ s1 ⟨σ1,H1,I1,q1⟩=>?_)
  exact h2 pins s1 σ1 H1 _ _ Q I1 rr q1
noncomputable def gTup(K:W.Frag)(n:Nat)(t:TGs):TG:=λv σ H Q=>∃ a xs,v=.ref a/\SqT K H a xs/\xs.length=n/\t xs σ H Q
theorem pg_tup{es:List Expr}{k:Nat}{t:TGs}{n:Nat}(hc:X.calm=true)(h:PGs X es t)
  (hn:(assignEach es X.env).length=n:=by rfl) (hst:(assignEach es X.env).findIdx? (·.1)=none:=by rfl):PG X (.Tuple es k pos) (gTup X.K n t):=by
 intro pins s σ H v u Q I r hw
 obtain⟨a,xs,e1,hq,hl,hw⟩:=hw
 subst e1
 cases r
 obtain⟨its,rv,ht,hz⟩:=I.tuple hq
 refine assign_Tuple_tuple (I.ok.hd hc) ht (by simp[hn,<- hl,rv.length]) hst λh' hx=>?_
 have I1:Inv X pins σ H { s with heap:=h' }:=I.kept (t':=s.toks) λb o e=>hx b o (nNl (hLz e)) e
 exact h pins _ σ H xs _ Q I1 (by simpa using rv) hw
noncomputable def gSub(to ti:TE)(t:TSet):TG:=λv σ H Q=>to σ H λo H1=>ti σ H1 λi H2=>t o i v H2 λH3=>Q σ H3
theorem pg_sub{o i:Expr}{to ti:TE}{t:TSet}(ho:PE X o to)(hi:PE X i ti)(hs:PSet X t)
  (ha:∀ v,assign (.Subscript o i pos) X.env v=(do
   let ov <- holding [v] (eval o X.env)
   let iv <- holding [v,ov] (eval i X.env)
   standAt pos
   holding [v,ov,iv] (setItem ov iv v)
   release [v,ov,iv] []):=by intro _; rfl):PG X (.Subscript o i pos) (gSub to ti t):=by
 intro pins s σ H v u Q I r h
 rw[ha]
 refine wB (wpAny_holding (thn (ho pins s σ H _ I h) λov s1 ⟨x,H1,I1,r1,q1⟩=>?_))
 refine wB (wpAny_holding (thn (hi pins s1 σ H1 _ I1 q1) λiv s2 ⟨y,H2,I2,r2,q2⟩=>?_))
 refine wB (wpAny_standAt (wB (wpAny_holding (thn (hs pins s2 σ H2 x y v ov iv u _ I2 r1 r2 r q2) λ_ s3 ⟨H3,I3,q3⟩=>?_))))
 exact wpAny_release ⟨σ,H3,I3,q3⟩
noncomputable def tAsg(te:TE)(g:TG):TS:=λD σ H=>te σ H λx H1=>g x σ H1 D.nx
theorem ps_asg{tg e:Expr}{te:TE}{g:TG}(he:PE X e te)(hg:PG X tg g)(hs:swapsWithSole [tg] e pos.line X.env=pure false:=by rfl)(hw:swappedStores [tg] e X.env=pure none:=by rfl)
  (h1:(assignEach [tg] X.env).map (·.2)=[assign tg X.env]:=by rfl):PS X (.Assign [tg] e pos) (tAsg te g):=by
 intro pins s σ H D I h
 refine wpAny_Assign_stores (thn (he pins s σ H _ I h) λv s1 ⟨x,H1,I1,r1,q1⟩=>?_) hs hw
 rw[h1]
 exact thn (hg pins s1 σ H1 x v _ I1 r1 q1) λ_ s2 q=>q
theorem ps_set{i:Nat}{x:Str}{e:Expr}{te:TE}{pos':Pos}(hN:X.N.Nodup)(hi:X.N[i]?=some x)(hx:Loc X.env.scope x)(he:PE X e te)(hs:swapsWith e (some (.Name x pos')) pos.line X.env=pure false:=by rfl)(hf:X.fn x=true∨X.env.scope.names.lookup x=some .local:=by first | exact .inl rfl | exact .inr rfl | assumption) :
  PS X (.Assign [.Name x pos'] e pos) (tAsg te (gName i)):=by
 intro pins s σ H D I h
 refine wpAny_Assign_Name (thn (he pins s σ H _ I h) λv s1 ⟨y,H1,I1,r1,q1⟩=>?_) hs
 exact zgR I1 hN hi hx r1 (λs2 I2=>⟨_,H1,I2,q1⟩) hf
end
section
variable {X:Cx}{pos:Pos}
end
structure It where
 go:Nat->Hp->Prop
 yld:Nat->Hp->V->Hp->Prop
 stop:Nat->Hp->Prop
noncomputable def FpOk(X:Cx)(pins:List (Addr×Obj))(H:Hp)(b:Addr):Prop :=
 H b=none/\b≠X.env.locals/\b∉X.fs/\(b∈X.ex∨X.s₀.heap.objs.size<=b)/\(∀ x c,X.env.cells.lookup x=some c->c≠b)/\∀ p∈X.pn++pins,p.1≠b
theorem Inv.fpOk{X:Cx}{pins:List (Addr×Obj)}{σ:St}{H H':Hp}{s:Shared}{b:Addr}(I:Inv X pins σ H s)(hb:s.heap.objs.size<=b)(hn:H' b=none):FpOk X pins H' b:=by
 refine⟨hn,Nat.ne_of_gt (nLl I.lt hb),I.nofs hb,.inr (Nat.le_trans I.sz hb),λx c e z=>?_,λp hp z=>?_⟩
 ·obtain⟨v,q⟩:=I.cell x c e
  exact absurd (Nat.lt_of_lt_of_le q.lt (by rw[z]; exact hb)) (Nat.lt_irrefl _)
 ·exact absurd (Nat.lt_of_lt_of_le (Heap.lt_size (I.pin p hp).1) (by rw[z]; exact hb)) (Nat.lt_irrefl _)
structure Turn(P:Program)(w:World)(K:W.Frag)(tg:Expr)(J:It)(fp:List Addr)(it:Addr)(tn:Nat->Heap->Prop):Prop where
 mem:it∈fp
 obj:∀ i h,tn i h->∀ b∈fp,∃ o,h.get? b=some o/\∀ v,o.data≠.cell v
 keep:∀ i h h',tn i h->(∀ b∈fp,∀ o,h.get? b=some o->h'.get? b=some o)->tn i h'
 item:∀ (X:Cx),X.prog=P->X.w=w->X.K=K->X.calm=true->∀ (i:Nat) (pins:List (Addr×Obj)) (s:Shared) (σ:St) (H:Hp) (E:Value->Shared->Prop),Inv X pins σ H s->(∀ b∈fp,FpOk X pins H b)->tn i s.heap->J.go i H ->
  wpAny (model P w) X.A (pyNext (.ref it)) (λr s1=>∃ u,r=some u /\
   wpAny (model P w) X.A (letOwnedTupleGo tg (.ref it) u) (λ_ s2=>∃ x H',Inv X pins σ H' s2/\zaK x u/\J.yld i H x H'/\tn (i+1) s2.heap/\∀ b∈fp,H' b=none) E s1) E s
 done:∀ (X:Cx),X.prog=P->X.w=w->X.K=K->X.calm=true->∀ (i:Nat) (pins:List (Addr×Obj)) (s:Shared) (σ:St) (H:Hp) (E:Value->Shared->Prop),Inv X pins σ H s->(∀ b∈fp,FpOk X pins H b)->tn i s.heap->J.stop i H ->
  wpAny (model P w) X.A (pyNext (.ref it)) (λr s1=>r=none/\Inv X pins σ H s1) E s
 self:∀ (A:Around) (i:Nat) (s:Shared) (Q:Value->Shared->Prop) (E:Value->Shared->Prop),tn i s.heap->Q (.ref it) s->wpAny (model P w) A (pyIter (.ref it)) Q E s
noncomputable abbrev TI:=St->Hp->(It->Hp->Prop)->Prop
noncomputable def PIE(X:Cx)(pins:List (Addr×Obj))(σ:St)(tg:Expr)(R:It->Hp->Prop)(itv:Value)(s2:Shared):Prop :=
 ∃ (it:Addr) (fp:List Addr) (tn:Nat->Heap->Prop) (J:It) (H':Hp),itv=.ref it/\Inv X pins σ H' s2/\Turn X.prog X.w X.K tg J fp it tn/\tn 0 s2.heap/\(∀ b∈fp,FpOk X pins H' b)/\R J H'
noncomputable def PI(X:Cx)(tg iter:Expr)(wi:TI):Prop :=
 ∀ (pins:List (Addr×Obj)) (s:Shared) (σ:St) (H:Hp) (R:It->Hp->Prop),Inv X pins σ H s->wi σ H R ->
  wpAny (model X.prog X.w) X.A (eval iter X.env) (λv s1=>wpAny (model X.prog X.w) X.A (pyIter v) (PIE X pins σ tg R) X.xe s1) X.xe s
theorem go_of{M:Model}{A:Around}{E:Value->Shared->Prop}{s:Shared}{tg:Expr}{it:Addr}{u:Value}{o:Obj}{n:String}{vs:Array Value}{Q:Unit->Shared->Prop}(ho:s.heap.get? it=some o)(hc:o.cls=.type n)(hd:o.data=.fields vs)
  (hn:["enumerate","zip","dict_itemiterator","dict_reverseitemiterator","odict_iterator","itertools.zip_longest","itertools.pairwise"].contains n=false) (hQ:Q () s):wpAny M A (letOwnedTupleGo tg (.ref it) u) Q E s:=by
 unfold letOwnedTupleGo
 cases tg<;>first
  | exact wQ hQ
  | (cases u<;>first
    | exact wQ hQ
    | (refine wB (wpAny_load ho ?_)
       rw[hc,hd]
       show wpAny M A (if (["enumerate","zip","dict_itemiterator","dict_reverseitemiterator","odict_iterator","itertools.zip_longest","itertools.pairwise"].contains n&&vs[0]?==some (rawInt _))=true then _ else _) Q E s
       rw[if_neg (by intro h; rw[hn,Bool.false_and]at h; cases h)]
       exact wQ hQ))
noncomputable def Itl(K:W.Frag)(a:Addr):It :=
 ⟨λi H=>∃ xs x,SqL K H a xs/\xs[i]?=some x,λi H x H'=>H'=H/\∀ xs,SqL K H a xs->xs[i]?=some x,λi H=>∃ xs,SqL K H a xs/\xs.length<=i⟩
noncomputable def Itt(K:W.Frag)(a:Addr):It :=
 ⟨λi H=>∃ xs x,SqT K H a xs/\xs[i]?=some x,λi H x H'=>H'=H/\∀ xs,SqT K H a xs->xs[i]?=some x,λi H=>∃ xs,SqT K H a xs/\xs.length<=i⟩
noncomputable def Itr(lo:Int)(n:Nat):It:=⟨λi _=>i < n,λi H x H'=>H'=H/\x=.int (lo+i),λi _=>n<=i⟩
theorem zhC{P:Program}{w:World}{K:W.Frag}{tg:Expr}(a it:Addr):Turn P w K tg (Itl K a) [it] it (λi h=>h.IsListIter it a i) where
 mem:=by simp
 obj:=λi h st b hb=>by
  have e:b=it:=by simpa using hb
  subst e
  obtain⟨o,e,c,d⟩:=st
  exact⟨o,e,λv z=>by rw[d]at z; cases z⟩
 keep:=λi h h' st k=>st.at λo e=>k it (by simp) o e
 item:=by
  intro X hP hw hK hc i pins s σ H E I hf st hg
  subst hP hw hK
  obtain⟨xs,x,hq,hx⟩:=hg
  obtain⟨its,rv,p,hz⟩:=I.list hq
  obtain⟨u,hu,ru⟩:=rv.get hx
  obtain⟨f0,f1,f2,f3,f4,f5⟩:=hf it (by simp)
  refine wpAny_pyNext_list_item st p.isList (x:=u) (by simpa using hu) λh' st' sb=>?_
  have I1:Inv X pins σ H { s with heap:=h' }:=I.turned (t':=s.toks) (λb o hb e=>(sb.2 b hb).trans e) f0 f1 f3 f4 f5
  obtain⟨o,e,c,d⟩:=id st'
  exact⟨u,rfl,go_of (s:={ s with heap:=h' }) e c d (by decide) ⟨x,H,I1,ru,⟨rfl,λys hy=>by rw[I.list_inj hy hq]; exact hx⟩,st',λb hb=>(hf b hb).1⟩⟩
 done:=by
  intro X hP hw hK hc i pins s σ H E I hf st hg
  subst hP hw hK
  obtain⟨xs,hq,hx⟩:=hg
  obtain⟨its,rv,p,hz⟩:=I.list hq
  obtain⟨f0,f1,f2,f3,f4,f5⟩:=hf it (by simp)
  have hl:=rv.length
  exact wpAny_pyNext_list_end (I.ok.hd hc) st p.isList (by simp; lia) λh' eb=>⟨rfl,I.turned (t':=s.toks) (λb o hb e=>eb b o hb e) f0 f1 f3 f4 f5⟩
 self:=λ_ _ _ _ _ st h=>wpAny_pyIter_listiter st h
theorem turn_tuple{P:Program}{w:World}{K:W.Frag}{tg:Expr}(a it:Addr):Turn P w K tg (Itt K a) [it] it (λi h=>h.IsTupleIter it a i) where
 mem:=by simp
 obj:=λi h st b hb=>by
  have e:b=it:=by simpa using hb
  subst e
  obtain⟨o,e,c,d⟩:=st
  exact⟨o,e,λv z=>by rw[d]at z; cases z⟩
 keep:=λi h h' st k=>st.at λo e=>k it (by simp) o e
 item:=by
  intro X hP hw hK hc i pins s σ H E I hf st hg
  subst hP hw hK
  obtain⟨xs,x,hq,hx⟩:=hg
  obtain⟨its,rv,p,hz⟩:=I.tuple hq
  obtain⟨u,hu,ru⟩:=rv.get hx
  obtain⟨f0,f1,f2,f3,f4,f5⟩:=hf it (by simp)
  refine wpAny_pyNext_tuple_item st (show s.heap.IsTuple a its.toArray from p) (x:=u) (by simpa using hu) λh' st' sb=>?_
  have I1:Inv X pins σ H { s with heap:=h' }:=I.turned (t':=s.toks) (λb o hb e=>(sb.2 b hb).trans e) f0 f1 f3 f4 f5
  obtain⟨o,e,c,d⟩:=id st'
  exact⟨u,rfl,go_of (s:={ s with heap:=h' }) e c d (by decide) ⟨x,H,I1,ru,⟨rfl,λys hy=>by rw[I.tuple_inj hy hq]; exact hx⟩,st',λb hb=>(hf b hb).1⟩⟩
 done:=by
  intro X hP hw hK hc i pins s σ H E I hf st hg
  subst hP hw hK
  obtain⟨xs,hq,hx⟩:=hg
  obtain⟨its,rv,p,hz⟩:=I.tuple hq
  obtain⟨f0,f1,f2,f3,f4,f5⟩:=hf it (by simp)
  have hl:=rv.length
  exact wpAny_pyNext_tuple_end (I.ok.hd hc) st (show s.heap.IsTuple a its.toArray from p) (by simp; lia) λh' eb=>⟨rfl,I.turned (t':=s.toks) (λb o hb e=>eb b o hb e) f0 f1 f3 f4 f5⟩
 self:=λ_ _ _ _ _ st h=>wpAny_pyIter_tupleiter st h
theorem turn_range{P:Program}{w:World}{K:PySem.W.Frag}{tg:Expr}(it:Addr)(lo:Int)(n:Nat):Turn P w K tg (Itr lo n) [it] it (λi h=>IsRangeIter h it (lo+(i:Nat) * 1) ((n:Int) - (i:Nat)) 1) where
 mem:=by simp
 obj:=λi h st b hb=>by
  have e:b=it:=by simpa using hb
  subst e
  exact⟨_,st,λv z=>by
   have z':Data.fields _=Data.cell v:=z
   cases z'⟩
 keep:=λi h h' st k=>k it (by simp) _ st
 item:=by
  intro X hP hw hK hc i pins s σ H E I hf st hg
  subst hP hw hK
  obtain⟨f0,f1,f2,f3,f4,f5⟩:=hf it (by simp)
  have W:=Walks.range (prog:=X.prog) (w:=X.w) (I.ok.hd hc) it lo 1 n
  refine W.item i s _ _ hg st λv h' tk hv st' kk=>?_
  obtain⟨t,rfl⟩:=hv
  have I1:Inv X pins σ H { s with heap:=h',toks:=tk }:=I.turned (λb o hb e=>kk b o (by simpa using hb) e) f0 f1 f3 f4 f5
  refine⟨_,rfl,go_of (s:={ s with heap:=h',toks:=tk }) (n:="range_iterator") st' rfl rfl (by decide) ⟨.int (lo+i),H,I1,⟨t,?_⟩,⟨rfl,rfl⟩,st',λb hb=>(hf b hb).1⟩⟩
  rw[Int.mul_one]
 done:=by
  intro X hP hw hK hc i pins s σ H E I hf st hg
  subst hP hw hK
  obtain⟨f0,f1,f2,f3,f4,f5⟩:=hf it (by simp)
  exact wpAny_pyNext_range_end (I.ok.hd hc) st (by have:n<=i:=hg; lia) λh' eb=>⟨rfl,I.turned (t':=s.toks) (λb o hb e=>eb b o hb e) f0 f1 f3 f4 f5⟩
 self:=λ_ _ _ _ _ st h=>wpAny_pyIter_rangeiter st h
section
variable {X:Cx}{tg:Expr}
theorem zjq{pins:List (Addr×Obj)}{σ:St}{H:Hp}{s:Shared}{R:It->Hp->Prop}{E:Value->Shared->Prop}{lo hi:Int}{t u v:Tok}{tk:Nat}(I:Inv X pins σ H s)(h1:-(2 ^ 62)<=lo)(h2:lo < 2 ^ 62)(h3:-(2 ^ 62)<=hi)(h4:hi < 2 ^ 62)
  (q:R (Itr lo (hi - lo).toNat) H):wpAny (model X.prog X.w) X.A (pyIter (.ref s.heap.objs.size)) (PIE X pins σ tg R) E { s with heap:=s.heap.push { cls:=.type "range",data:=.fields #[.int lo t,.int hi u,.int 1 v] },toks:=tk }:=by
 refine wpAny_pyIter_range (IsRange.new ..) (small_one h1 h2 h3 h4) ?_
 have I1:Inv X pins σ H { s with heap:=s.heap.push { cls:=.type "range",data:=.fields #[.int lo t,.int hi u,.int 1 v] },toks:=tk }:=I.kept λb o e=>Heap.get?_push_of_some _ e
 refine⟨(s.heap.push { cls:=.type "range",data:=.fields #[.int lo t,.int hi u,.int 1 v] }).objs.size,[(s.heap.push { cls:=.type "range",data:=.fields #[.int lo t,.int hi u,.int 1 v] }).objs.size],_,_,H,rfl,
  I1.kept (t':=tk) λb o e=>hPs _ e,turn_range _ lo (hi - lo).toNat,?_,λb hb=>?_,q⟩
 ·have e1:lo+((0:Nat):Int) * 1=lo:=by simp
  have e2:(((hi - lo).toNat:Nat):Int) - ((0:Nat):Int)=Builtin.Range.rangeSize lo hi 1:=by rw[rangeSize_one]; split<;>lia
  show IsRangeIter _ _ (lo+((0:Nat):Int) * 1) ((((hi - lo).toNat:Nat):Int) - ((0:Nat):Int)) 1
  rw[e1,e2]
  exact hPz _ rfl
 ·have e:b=(s.heap.push { cls:=.type "range",data:=.fields #[.int lo t,.int hi u,.int 1 v] }).objs.size:=by simpa using hb
  subst e
  exact I1.fpOk (nLr _) (I1.hok.fresh (nLr _))
noncomputable def iRng1(ta:TA):TI:=λσ H R=>ta σ H λvs H1=>∃ j:Int,vs=[.int j]/\-(2 ^ 62)<=j/\j < 2 ^ 62/\R (Itr 0 j.toNat) H1
noncomputable def iRng2(ta:TA):TI:=λσ H R=>ta σ H λvs H1=>∃ i j:Int,vs=[.int i,.int j]/\(-(2 ^ 62)<=i/\i < 2 ^ 62/\-(2 ^ 62)<=j/\j < 2 ^ 62)/\R (Itr i (j - i).toNat) H1
theorem pi_range1{a:Expr}{ta:TA}{p pos:Pos}(hg:Gl X "range") (hm:X.mg "range"=none) (ha:PA X [a] ta) (hs:starEach [a] X.env=[(false,eval a X.env)]:=by rfl):PI X tg (.Call (.Name "range" p) [a] [] pos) (iRng1 ta):=by
 intro pins s σ H R I h
 refine Call_ (ze2 I hg hm boot_range (PyProof.Rows.callWith_type1 (thn (ha pos pins s σ H _ I h) λus s1 ⟨vs,H1,I1,r1,q1⟩=>?_) hs rfl))
 obtain⟨j,e,q1,q2,q⟩:=q1
 subst e
 cases r1 with
 | cons r rr =>
  cases rr
  obtain⟨t,rfl⟩:=r
  exact call_range_1 (zjq I1 (by lia) (by lia) q1 q2 (by simpa using q))
theorem pi_range2{a b:Expr}{ta:TA}{p pos:Pos}(hg:Gl X "range") (hm:X.mg "range"=none) (ha:PA X [a,b] ta) (hs:starEach [a,b] X.env=[(false,eval a X.env),(false,eval b X.env)]:=by rfl) (hs2:starEach [b] X.env=[(false,eval b X.env)]:=by rfl) :
  PI X tg (.Call (.Name "range" p) [a,b] [] pos) (iRng2 ta):=by
 intro pins s σ H R I h
 refine Call_ (ze2 I hg hm boot_range (PyProof.Rows.callWith_type1 (thn (ha pos pins s σ H _ I h) λus s1 ⟨vs,H1,I1,r1,q1⟩=>?_) (by rw[hs,hs2]) (by rw[hs2]; rfl)))
 obtain⟨i,j,e,⟨q1,q2,q3,q4⟩,q⟩:=q1
 subst e
 cases r1 with
 | cons r rr =>
  cases rr with
  | cons r' rr =>
   cases rr
   obtain⟨t,rfl⟩:=r
   obtain⟨t',rfl⟩:=r'
   exact call_range_2 (zjq I1 q1 q2 q3 q4 q)
noncomputable def tFor(wi:TI)(g:TG)(tb:TS):TS:=λD σ H=>wi σ H λJ H1=>∃ W:Nat->Nat->St->Hp->Prop,(∃ m,W 0 m σ H1)/\∀ i m σ H,W i m σ H ->
 (J.stop i H/\D.nx σ H)∨(J.go i H/\∃ N:St->Hp->Prop,(∀ σ' H',N σ' H'->∃ m',m' < m/\W (i+1) m' σ' H')/\∀ x H',J.yld i H x H'->g x σ H' λσ2 H2=>tb { D with nx:=N,ct:=N,bk:=D.nx } σ2 H2)
noncomputable def zfx(fp:List Addr)(h:Heap):List (Addr×Obj):=fp.filterMap λb=>(h.get? b).map λo=>(b,o)
theorem zdU{fp:List Addr}{h:Heap}{b:Addr}{o:Obj}(hb:b∈fp)(e:h.get? b=some o):(b,o)∈zfx fp h:=List.mem_filterMap.mpr ⟨b,hb,by rw[e]; rfl⟩
theorem zhZ{fp:List Addr}{h:Heap}{p:Addr×Obj}(hp:p∈zfx fp h):p.1∈fp/\h.get? p.1=some p.2:=by
 obtain⟨b,hb,e⟩:=List.mem_filterMap.mp hp
 cases q:h.get? b with
 | none=>rw[q]at e; cases e
 | some o =>
  rw[q]at e
  have e':(b,o)=p:=Option.some.inj e
  subst e'
  exact⟨hb,q⟩
theorem Inv.pinned{pins:List (Addr×Obj)}{σ:St}{H:Hp}{s:Shared}{fp:List Addr}(I:Inv X pins σ H s)(hf:∀ b∈fp,FpOk X pins H b)(ho:∀ b∈fp,∃ o,s.heap.get? b=some o/\∀ v,o.data≠.cell v):Inv X (pins++zfx fp s.heap) σ H s :=
 I.pins_of λp hp=>(List.mem_append.mp hp).elim (λz=>I.pin p (List.mem_append_right _ z)) λz=>by
  obtain⟨hb,e⟩:=zhZ z
  obtain⟨f0,f1,f2,_⟩:=hf p.1 hb
  obtain⟨o,e',d⟩:=ho p.1 hb
  rw[e]at e'; cases e'
  exact⟨e,f0,f1,f2,d⟩
theorem Inv.unpinned{pins pl:List (Addr×Obj)}{σ:St}{H:Hp}{s:Shared}(I:Inv X (pins++pl) σ H s):Inv X pins σ H s:=I.pins_of λp hp=>I.pin p (List.mem_append_right _ (List.mem_append_left _ hp))
theorem ps_for{iter:Expr}{body:List Stmt}{wi:TI}{g:TG}{tb:TS}{pos:Pos}(hp:PassesOwn (model X.prog X.w) X.A X.env X.xe)(hc:X.calm=true)(hi:PI X tg iter wi)(hg:PG X tg g)(hb:PSs X body tb)
  (hs:∀ x,foldedSetIterable iter X.env x=pure x:=by intro _; rfl):PS X (.For tg iter body [] pos) (tFor wi g tb):=by
 intro pins s σ H D I h
 refine wpAny_For (thn (hi pins s σ H _ I h) λv s1 h1=>thn h1 λitv s2 h2=>?_) hs
 obtain⟨it,fp,tn,J,H2,e,I2,T,st2,f2,W,⟨m0,w0⟩,turn⟩:=h2
 subst e
 have stat:∀ {H':Hp},(∀ b∈fp,H' b=none)->∀ b∈fp,FpOk X pins H' b:=λhn b hb=>⟨hn b hb,(f2 b hb).2⟩
 refine codeAny_forLoop_any (λn s'=>∃ i σ' H',Inv X pins σ' H' s'/\tn i s'.heap/\(∀ b∈fp,H' b=none)/\W i n σ' H') ?_ m0 ⟨0,σ,H2,I2,st2,λb hb=>(f2 b hb).1,w0⟩
 rintro n s3 ⟨i,σ3,H3,I3,st3,fr3,w3⟩
 rcases turn i n σ3 H3 w3 with ⟨stop,qn⟩ | ⟨go,N,hN,step⟩
 ·refine wpAny_passesOwn hp (thn (T.done X rfl rfl rfl hc i pins s3 σ3 H3 X.xe I3 (stat fr3) st3 stop) λr s4 ⟨hr,I4⟩=>?_)
  subst hr
  exact wpAny_execs_nil ⟨σ3,H3,I4,qn⟩
 ·refine wpAny_passesOwn hp (thn (T.item X rfl rfl rfl hc i pins s3 σ3 H3 X.xe I3 (stat fr3) st3 go) λr s4 ⟨u,hr,h4⟩=>?_)
  subst hr
  refine wpAny_passesOwn hp (thn h4 λ_ s5 ⟨x,H5,I5,r5,y5,st5,fr5⟩=>?_)
  have I5':=I5.pinned (stat fr5) (T.obj _ _ st5)
  refine wpAny_passesOwn hp (thn (hg _ s5 σ3 H5 x u _ I5' r5 (step x H5 y5)) λ_ s6 ⟨σ6,H6,I6,q6⟩=>?_)
  refine wpAny_passesOwn hp (thn (hb _ s6 σ6 H6 _ I6 q6) λf s7 q7=>?_)
  have again:∀ {σ7:St} {H7:Hp},Inv X (pins++zfx fp s5.heap) σ7 H7 s7->N σ7 H7->∃ m,m < n/\∃ i σ' H',Inv X pins σ' H' s7/\tn i s7.heap/\(∀ b∈fp,H' b=none)/\W i m σ' H':=λ{σ7 H7} I7 n7=>by
   obtain⟨m',hm,w7⟩:=hN σ7 H7 n7
   refine⟨m',hm,i+1,σ7,H7,I7.unpinned,T.keep _ _ _ st5 λb hb o e=>(I7.pin (b,o) (List.mem_append_right _ (List.mem_append_right _ (zdU hb e)))).1,λb hb=>?_,w7⟩
   obtain⟨o,e,d⟩:=T.obj _ _ st5 b hb
   exact(I7.pin (b,o) (List.mem_append_right _ (List.mem_append_right _ (zdU hb e)))).2.1
  cases f with
  | next=>obtain⟨σ7,H7,I7,n7⟩:=q7; exact again I7 n7
  | cont=>obtain⟨σ7,H7,I7,n7⟩:=q7; exact again I7 n7
  | brk=>obtain⟨σ7,H7,I7,q7⟩:=q7; exact⟨σ7,H7,I7.unpinned,q7⟩
  | ret v=>obtain⟨x7,σ7,H7,I7,r7,q7⟩:=q7; exact⟨x7,σ7,H7,I7.unpinned,r7,q7⟩
end
noncomputable abbrev R2:=V->V->Hp->VK->Prop
noncomputable def OpR(X:Cx)(f:Value->Value->Sem Value)(r:R2):Prop :=
 ∀ (pins:List (Addr×Obj)) (s:Shared) (σ:St) (H:Hp) (x y:V) (v u:Value) (Q:VK),Inv X pins σ H s->zaK x v->zaK y u->r x y H Q ->
  wpAny (model X.prog X.w) X.A (f v u) (EP X pins σ Q) X.xe s
noncomputable def UnR(X:Cx)(f:Value->Sem Value)(r:V->Hp->VK->Prop):Prop :=
 ∀ (pins:List (Addr×Obj)) (s:Shared) (σ:St) (H:Hp) (x:V) (v:Value) (Q:VK),Inv X pins σ H s->zaK x v->r x H Q ->
  wpAny (model X.prog X.w) X.A (f v) (EP X pins σ Q) X.xe s
noncomputable def zcV(X:Cx)(f:Value)(r:List V->Hp->VK->Prop):Prop :=
 ∀ (pins:List (Addr×Obj)) (s:Shared) (σ:St) (H:Hp) (xs:List V) (us:List Value) (Q:VK),Inv X pins σ H s->zaM xs us->r xs H Q ->
  wpAny (model X.prog X.w) X.A (call f us) (EP X pins σ Q) X.xe s
noncomputable def TruR(X:Cx)(r:V->Hp->(Bool->Hp->Prop)->Prop):Prop :=
 ∀ (pins:List (Addr×Obj)) (s:Shared) (σ:St) (H:Hp) (x:V) (v:Value) (Q:Bool->Hp->Prop),Inv X pins σ H s->zaK x v->r x H Q ->
  wpAny (model X.prog X.w) X.A (truthy v) (TP X pins σ Q) X.xe s
noncomputable def tOp(r:R2)(ta tb:TE):TE:=λσ H Q=>ta σ H λx H1=>tb σ H1 λy H2=>r x y H2 Q
noncomputable def tUn(r:V->Hp->VK->Prop)(ta:TE):TE:=λσ H Q=>ta σ H λx H1=>r x H1 Q
noncomputable def rI(C:Int->Int->Prop)(g:Int->Int->V):R2:=λx y H Q=>∃ i j,x=.int i/\y=.int j/\C i j/\Q (g i j) H
noncomputable def rI0(g:Int->Int->V):R2:=λx y H Q=>∃ i j,x=.int i/\y=.int j/\Q (g i j) H
noncomputable def rU(g:Int->V):V->Hp->VK->Prop:=λx H Q=>∃ i,x=.int i/\Q (g i) H
section
variable {X:Cx}{a b c:Expr}{ta tb tc:TE}{pos:Pos}
theorem binT(ha:PE X a ta)(hb:PE X b tb){pins:List (Addr×Obj)}{s:Shared}{σ:St}{H:Hp}{R:V->V->Hp->Prop}(I:Inv X pins σ H s)
  (h:ta σ H λx H1=>tb σ H1 λy H2=>R x y H2) {Q:Value->Shared->Prop} {f:Value->Value->Sem Value}
  (hf:∀ v u s2 x y H2,Inv X pins σ H2 s2->zaK x v->zaK y u->R x y H2->wpAny (model X.prog X.w) X.A (f v u) Q X.xe s2) :
  wpAny (model X.prog X.w) X.A (eval a X.env) (λv s₁=>wpAny (model X.prog X.w) X.A (eval b X.env) (λu s₂=>wpAny (model X.prog X.w) X.A (f v u) Q X.xe s₂) X.xe s₁) X.xe s:=by
 refine thn (ha pins s σ H _ I h) λv s1 ⟨x,H1,I1,r1,q1⟩=>?_
 refine thn (hb pins s1 σ H1 _ I1 q1) λu s2 ⟨y,H2,I2,r2,q2⟩=>?_
 exact hf v u s2 x y H2 I2 r1 r2 q2
theorem pe_op{op:Operator}{r:R2}(ho:OpR X (binaryOp op) r)(ha:PE X a ta)(hb:PE X b tb):PE X (.BinOp a op b pos) (tOp r ta tb):=by
 intro pins s σ H Q I h
 exact wpAny_BinOp (binT ha hb I h λv u s2 x y H2 I2 rx ry q=>ho pins s2 σ H2 x y v u Q I2 rx ry q)
theorem pe_un{op:UnaryOp}{r:V->Hp->VK->Prop}(ho:UnR X (unaryOp op) r)(ha:PE X a ta):PE X (.UnaryOp op a pos) (tUn r ta):=by
 intro pins s σ H Q I h
 exact UnaryOp_ (thn (ha pins s σ H _ I h) λv s1 hu=>(by obtain⟨x,H1,I1,r1,q1⟩:=hu; exact ho pins s1 σ H1 x v Q I1 r1 q1))
theorem opI{f:Value->Value->Sem Value}{C:Int->Int->Prop}{g:Int->Int->Int}
  (rule:∀ (i j:Int) (t u:Tok) (s:Shared) (Q:Value->Shared->Prop) (E:Value->Shared->Prop),C i j->Q (.int (g i j) s.toks) { s with toks:=s.toks+1 }->wpAny (model X.prog X.w) X.A (f (.int i t) (.int j u)) Q E s) :
  OpR X f (rI C λi j=>.int (g i j)):=by
 intro pins s σ H x y v u Q I rx ry h
 obtain⟨i,j,rfl,rfl,hc,q⟩:=h
 obtain⟨t,rfl⟩:=rx
 obtain⟨t',rfl⟩:=ry
 exact rule i j t t' s _ _ hc ⟨.int (g i j),H,I.tok _,⟨_,rfl⟩,q⟩
theorem opI0{f:Value->Value->Sem Value}{g:Int->Int->Int}
  (rule:∀ (i j:Int) (t u:Tok) (s:Shared) (Q:Value->Shared->Prop) (E:Value->Shared->Prop),Q (.int (g i j) s.toks) { s with toks:=s.toks+1 }->wpAny (model X.prog X.w) X.A (f (.int i t) (.int j u)) Q E s) :
  OpR X f (rI0 λi j=>.int (g i j)):=by
 intro pins s σ H x y v u Q I rx ry h
 obtain⟨i,j,rfl,rfl,q⟩:=h
 obtain⟨t,rfl⟩:=rx
 obtain⟨t',rfl⟩:=ry
 exact rule i j t t' s _ _ ⟨.int (g i j),H,I.tok _,⟨_,rfl⟩,q⟩
theorem opB0{f:Value->Value->Sem Value}{g:Int->Int->Bool}
  (rule:∀ (i j:Int) (t u:Tok) (s:Shared) (Q:Value->Shared->Prop) (E:Value->Shared->Prop),Q (.bool (g i j)) s->wpAny (model X.prog X.w) X.A (f (.int i t) (.int j u)) Q E s) :
  OpR X f (rI0 λi j=>.bl (g i j)):=by
 intro pins s σ H x y v u Q I rx ry h
 obtain⟨i,j,rfl,rfl,q⟩:=h
 obtain⟨t,rfl⟩:=rx
 obtain⟨t',rfl⟩:=ry
 exact rule i j t t' s _ _ ⟨.bl (g i j),H,I,rfl,q⟩
noncomputable def CPow(i j:Int):Prop:=0<=j/\j<=1000000/\i.natAbs < 2 ^ 64
noncomputable def CMul(i j:Int):Prop:=(-(2 ^ 64) < i/\i < 2 ^ 64)∨(-(2 ^ 64) < j/\j < 2 ^ 64)
theorem CMul.ok{i j:Int}(h:CMul i j):IntMulOk i j:=by
 rcases h with ⟨h1,h2⟩ | ⟨h1,h2⟩
 ·exact .of_left (intBits_le_64 h1 h2)
 ·exact .of_right (intBits_le_64 h1 h2)
theorem two_pow_nn(k:Nat):(0:Int)<=2 ^ k:=by
 rw[two_pow_cast]
 exact Int.natCast_nonneg _
theorem op_add:OpR X (binaryOp .Add) (rI0 λi j=>.int (i+j)):=opI0 λ_ _ _ _ _ _ _ q=>add_int q
theorem op_sub:OpR X (binaryOp .Sub) (rI0 λi j=>.int (i - j)):=opI0 λ_ _ _ _ _ _ _ q=>sub_int q
theorem op_mul:OpR X (binaryOp .Mult) (rI CMul λi j=>.int (i * j)):=opI λ_ _ _ _ _ _ _ hc q=>mul_int q hc.ok
theorem op_mod:OpR X (binaryOp .Mod) (rI (λ_ j=>0 < j) λi j=>.int (i % j)):=opI λi j _ _ _ _ _ hc q=>by
 have h1:(0:Int) < j:=hc
 exact mod_int' (by lia) (by rw[Int.fmod_eq_emod_of_nonneg i (by lia)]; exact q)
theorem op_pow:OpR X (binaryOp .Pow) (rI CPow λi j=>.int (i ^ j.toNat)):=opI λ_ _ _ _ _ _ _ hc q=>pow_int_small hc.1 hc.2.1 hc.2.2 q
theorem op_shl:OpR X (binaryOp .LShift) (rI CPow λi j=>.int (i * 2 ^ j.toNat)):=opI λ_ _ _ _ _ _ _ hc q=>lshift_int_small hc.1 hc.2.1 hc.2.2 q
theorem op_shr:OpR X (binaryOp .RShift) (rI (λ_ j=>0<=j) λi j=>.int (i / 2 ^ j.toNat)):=opI λi j _ _ _ _ _ hc q =>
 rshift_int hc (by rw[Int.fdiv_eq_ediv_of_nonneg i (two_pow_nn _)]; exact q)
theorem op_and:OpR X (binaryOp .BitAnd) (rI0 λi j=>.int (Builtin.bitAnd i j)):=opI0 λ_ _ _ _ _ _ _ q=>and_int q
theorem unI{f:Value->Sem Value}{g:Int->Int}
  (rule:∀ (i:Int) (t:Tok) (s:Shared) (Q:Value->Shared->Prop) (E:Value->Shared->Prop),Q (.int (g i) s.toks) { s with toks:=s.toks+1 }->wpAny (model X.prog X.w) X.A (f (.int i t)) Q E s) :
  UnR X f (rU λi=>.int (g i)):=by
 intro pins s σ H x v Q I rx h
 obtain⟨i,rfl,q⟩:=h
 obtain⟨t,rfl⟩:=rx
 exact rule i t s _ _ ⟨.int (g i),H,I.tok _,⟨_,rfl⟩,q⟩
theorem un_neg:UnR X (unaryOp .USub) (rU λi=>.int (-i)):=unI λ_ _ _ _ _ q=>neg_int q
end
section
variable {X:Cx}{a b c:Expr}{ta tb tc:TE}{pos:Pos}
theorem fin_bl{pins:List (Addr×Obj)}{σ:St}{H:Hp}{s:Shared}{Q:VK}{k k':Bool}(I:Inv X pins σ H s)(q:Q (.bl k) H)(e:k=k'):EP X pins σ Q (.bool k') s:=by
 subst e
 exact⟨.bl k,H,I,rfl,q⟩
theorem op_lt:OpR X (compareOp .Lt) (rI0 λi j=>.bl (decide (i < j))):=opB0 λ_ _ _ _ _ _ _ q=>lt_int q
theorem op_gt:OpR X (compareOp .Gt) (rI0 λi j=>.bl (decide (j < i))):=opB0 λ_ _ _ _ _ _ _ q=>gt_int q
theorem op_ge:OpR X (compareOp .GtE) (rI0 λi j=>.bl (decide (j<=i))):=opB0 λ_ _ _ _ _ _ _ q=>ge_int q
theorem op_notN:OpR X (compareOp .IsNot) (λx y H Q=>y=.non/\Q (.bl (!decide (x=.non))) H):=by
 intro pins s σ H x y v u Q I rx ry h
 obtain⟨rfl,q⟩:=h
 cases ry
 refine isnot_none_gen (fin_bl I q ?_)
 cases x<;>first
  | (cases rx; rfl)
  | (obtain⟨t,rfl⟩:=rx; rfl)
theorem OpR.or{f:Value->Value->Sem Value}{r r':R2}(h:OpR X f r)(h':OpR X f r'):OpR X f (λx y H Q=>r x y H Q∨r' x y H Q):=by
 intro pins s σ H x y v u Q I rx ry q
 rcases q with q | q
 ·exact h pins s σ H x y v u Q I rx ry q
 ·exact h' pins s σ H x y v u Q I rx ry q
theorem nomark(b:Expr){op:CmpOp}(h:op≠.In:=by decide)(h2:op≠.NotIn:=by decide):behindInMarks op b=false:=by
 have e1:(op==CmpOp.In)=false:=by cases op<;>first | rfl | exact absurd rfl h
 have e2:(op==CmpOp.NotIn)=false:=by cases op<;>first | rfl | exact absurd rfl h2
 cases b<;>simp[behindInMarks,e1,e2]
theorem pe_cmpR{op:CmpOp}{r:R2}(ho:OpR X (compareOp op) r)(ha:PE X a ta)(hb:PE X b tb)(hm:behindInMarks op b=false):PE X (.Compare a [op] [b] pos) (tOp r ta tb):=by
 intro pins s σ H Q I h
 exact wpAny_Compare1 (binT ha hb I h λv u s2 x y H2 I2 rx ry q=>ho pins s2 σ H2 x y v u Q I2 rx ry q) hm
noncomputable def tTest(t:TE):TT:=λσ H Q=>t σ H λx H'=>∃ k,x=.bl k/\Q k H'
theorem pt_cmpR{op:CmpOp}{r:R2}(ho:OpR X (compareOp op) r)(ha:PE X a ta)(hb:PE X b tb)(hm:behindInMarks op b=false):PT X (.Compare a [op] [b] pos) (tTest (tOp r ta tb)):=by
 intro pins s σ H Q I h
 refine wpAny_isTrue_Compare1 (thn (ha pins s σ H _ I h) λv s1 ⟨x,H1,I1,r1,q1⟩=>thn (hb pins s1 σ H1 _ I1 q1) λu s2 ⟨y,H2,I2,r2,q2⟩ =>
  thn (ho pins s2 σ H2 x y v u _ I2 r1 r2 q2) λc s3 ⟨z,H3,I3,r3,k,e,q3⟩=>?_) hm
 subst e
 cases r3
 exact wpAny_truthy_bool ⟨H3,I3,q3⟩
noncomputable def tChain(r r':R2)(ta tb tc:TE):TE:=λσ H Q=>ta σ H λx H1=>tb σ H1 λy H2=>r x y H2 λz H3=>∃ k,z=.bl k /\
 (if k=true then tc σ H3 λw' H4=>r' y w' H4 Q else Q (.bl false) H3)
theorem pe_chain{op op':CmpOp}{r r':R2}(ho:OpR X (compareOp op) r)(ho':OpR X (compareOp op') r')(ha:PE X a ta)(hb:PE X b tb)(hc:PE X c tc)
  (hm:lastMarks [op,op'] [b,c]=false:=by with_unfolding_all rfl):PE X (.Compare a [op,op'] [b,c] pos) (tChain r r' ta tb tc):=by
 intro pins s σ H Q I h
 refine Compare_chain (thn (ha pins s σ H _ I h) λv s1 ⟨x,H1,I1,r1,q1⟩=>chain_link (thn (hb pins s1 σ H1 _ I1 q1) λu s2 ⟨y,H2,I2,r2,q2⟩ =>
  thn (ho pins s2 σ H2 x y v u _ I2 r1 r2 q2) λd s3 ⟨z,H3,I3,r3,k,e,q3⟩=>?_)) hm
 subst e
 cases r3
 refine wpAny_truthy_bool ?_
 cases k with
 | false=>exact ite_ff ⟨.bl false,H3,I3,rfl,q3⟩
 | true=>exact ite_tt (chain_last (thn (hc pins s3 σ H3 _ I3 q3) λw' s4 hu=>(by obtain⟨z',H4,I4,r4,q4⟩:=hu; exact ho' pins s4 σ H4 y z' u w' Q I4 r2 r4 q4)))
noncomputable def TruV(K:W.Frag)(x:V)(H:Hp)(k:Bool):Prop :=
 match x with
 | .non=>k=false
 | .bl b=>k=b
 | .int i=>k=(i != 0)
 | .str y=>y.length<=sizeLine/\k=((y.length:Int) != 0)
 | .byt y=>y.size<=sizeLine/\k=((y.size:Int) != 0)
 | .ref p=>(∃ xs,SqL K H p xs/\k=!xs.isEmpty)∨(∃ xs,SqT K H p xs/\k=!xs.isEmpty)∨∃ kvs,H p=some (.dK kvs)/\k=!kvs.isEmpty
 | _=>False
theorem isEmpty_kv{κ:Type}{kvs:List (κ×V)}{vs:List (κ×Value)}(r:KV kvs vs):(!vs.isEmpty)=!kvs.isEmpty:=by
 cases r<;>rfl
theorem zgz{xs:List V}{its:List Value}(r:zaM xs its):(!its.toArray.isEmpty)=!xs.isEmpty:=by
 cases r<;>simp
theorem zh3:(sizeLine:Nat) < 2 ^ 63:=by rw[sizeLine_eq]; decide
theorem tru_ok:TruR X (λx H Q=>∃ k,TruV X.K x H k/\Q k H):=by
 intro pins s σ H x v Q I rx h
 obtain⟨k,e,q⟩:=h
 have hl:=zh3
 have hs:sizeLine=16777216:=sizeLine_eq
 cases x with
 | non =>
  cases rx
  have e':k=false:=e
  subst e'
  exact truthy_none ⟨H,I,q⟩
 | bl b =>
  cases rx
  have e':k=b:=e
  subst e'
  exact wpAny_truthy_bool ⟨H,I,q⟩
 | int i =>
  obtain⟨t,rfl⟩:=rx
  have e':k=(i != 0):=e
  subst e'
  exact PySem.P.truthy_int ⟨H,I,q⟩
 | str y =>
  obtain⟨t,rfl⟩:=rx
  obtain⟨hy,e'⟩:y.length<=sizeLine/\k=((y.length:Int) != 0):=e
  subst e'
  exact PySem.P.truthy_str (by lia) ⟨H,I.tok _,q⟩
 | byt y =>
  obtain⟨t,rfl⟩:=rx
  obtain⟨hy,e'⟩:y.size<=sizeLine/\k=((y.size:Int) != 0):=e
  subst e'
  exact W.truthy_bytes (by lia) ⟨H,I.tok _,q⟩
 | ref p =>
  cases rx
  have e':(∃ xs,SqL X.K H p xs/\k=!xs.isEmpty)∨(∃ xs,SqT X.K H p xs/\k=!xs.isEmpty)∨∃ kvs,H p=some (.dK kvs)/\k=!kvs.isEmpty:=e
  rcases e' with ⟨xs,hx,e'⟩ | ⟨xs,hx,e'⟩ | ⟨kvs,hx,e'⟩
  ·subst e'
   obtain⟨its,r,pl,hz⟩:=I.list hx
   have hlen:=r.length
   exact wpAny_truthy_list pl.isList (by simp only[List.size_toArray]; lia) ⟨H,I.tok _,by rw[zgz r]; exact q⟩
  ·subst e'
   obtain⟨its,r,pl,hz⟩:=I.tuple hx
   have hlen:=r.length
   exact truthy_tuple pl (by simp only[List.size_toArray]; lia) ⟨H,I.tok _,by rw[zgz r]; exact q⟩
  ·subst e'
   obtain⟨hz,hS,vs,r,m⟩:kvs.length<=sizeLine/\(p==sysModules)=false/\∃ vs,KV kvs vs/\s.heap.DictOf (zaE X.prog X.w) p vs:=I.hok p _ hx
   have hlen:kvs.length=vs.length:=Paired.length r
   exact wpAny_truthy_dict hS m (by lia) ⟨H,I.tok _,by rw[isEmpty_kv r]; exact q⟩
 | _=>exact(show False from e).elim
theorem pt_truth(ha:PE X a ta)(he:∀ whole,isTrue a X.env whole=(do let v <- whole; standAt a.pos; holding [v] (truthy v))) :
  PT X a (λσ H Q=>ta σ H λx H'=>∃ k,TruV X.K x H' k/\Q k H'):=by
 intro pins s σ H Q I h
 exact isTrue_plain (thn (ha pins s σ H _ I h) λv s1 hu=>(by obtain⟨x,H1,I1,r1,q1⟩:=hu; exact tru_ok pins s1 σ H1 x v Q I1 r1 q1)) (he _)
theorem vals1{x:V}{us:List Value}(r:zaM [x] us):∃ u,us=[u]/\zaK x u:=by
 cases r with
 | cons r1 r2=>cases r2; exact⟨_,rfl,r1⟩
theorem vals2{x y:V}{us:List Value}(r:zaM [x,y] us):∃ u w',us=[u,w']/\zaK x u/\zaK y w':=by
 cases r with
 | cons r1 r2 =>
  cases r2 with
  | cons r3 r4=>cases r4; exact⟨_,_,rfl,r1,r3⟩
theorem call_max2(hc:X.calm=true):zcV X (.builtin "max") (λxs H Q=>∃ i j,xs=[.int i,.int j]/\Q (.int (if j > i then j else i)) H):=by
 intro pins s σ H xs us Q I r h
 obtain⟨i,j,rfl,q⟩:=h
 obtain⟨u,w',rfl,⟨t,rfl⟩,⟨t',rfl⟩⟩:=vals2 r
 refine max_two_ints (I.ok.hd hc) λh' tk k=>⟨_,H,I.kept k,?_,q⟩
 by_cases hj:j > i
 ·rw[if_pos hj,if_pos hj]; exact⟨_,rfl⟩
 ·rw[if_neg hj,if_neg hj]; exact⟨_,rfl⟩
theorem call_min2(hc:X.calm=true):zcV X (.builtin "min") (λxs H Q=>∃ i j,xs=[.int i,.int j]/\Q (.int (if j < i then j else i)) H):=by
 intro pins s σ H xs us Q I r h
 obtain⟨i,j,rfl,q⟩:=h
 obtain⟨u,w',rfl,⟨t,rfl⟩,⟨t',rfl⟩⟩:=vals2 r
 refine min_two_ints (I.ok.hd hc) λh' tk k=>⟨_,H,I.kept k,?_,q⟩
 by_cases hj:j < i
 ·rw[if_pos hj,if_pos hj]; exact⟨_,rfl⟩
 ·rw[if_neg hj,if_neg hj]; exact⟨_,rfl⟩
end
structure ObjM(h:Heap)(x dx C:Addr)(mA:Str->Option Value):Prop where
 obj:h.get? x=some (W.instObj C dx)
 ns:h.Ns1 dx mA
 ne:dx≠x
theorem lookIn_ns{h:Heap}{dx:Addr}{mA:Str->Option Value}(n:h.Ns1 dx mA):∃ od,h.get? dx=some od/\∀ name,W.lookIn name od=some (mA name):=by
 obtain⟨o,es,ep,ho,hd,hk,_,hm⟩:=n
 refine⟨o,ho,λname=>?_⟩
 have e:=hm name
 unfold nsFind findBy at e
 rw[<- Array.find?_toList]at e
 unfold W.lookIn
 rw[hd]
 dsimp only
 split
 ·rename_i y q
  rw[q]at e
  exact congrArg some e
 ·rename_i q
  rw[q]at e
  have a:es.toList.any (·.refKey)=false:=by
   rw[List.any_eq_false]
   intro y hy
   obtain⟨z,t,hkey⟩:=hk y (Array.mem_toList_iff.mp hy)
   simp[DictEntry.refKey,hkey]
  have a':¬ es.toList.any (·.refKey)=true:=by rw[a]; exact Bool.false_ne_true
  rw[if_neg a']
  exact congrArg some e
theorem ObjM.look{h:Heap}{x dx C:Addr}{mA:Str->Option Value}(I:ObjM h x dx C mA):∃ od,W.InstAt h x (W.instObj C dx) C (some od)/\∀ name,W.lookIn name od=some (mA name) :=
 let ⟨od,ho,hl⟩:=lookIn_ns I.ns
 ⟨od,⟨I.obj,rfl,rfl,ho⟩,hl⟩
section
variable {prog:Program}{w:World}{A:Around}{E:Value->Shared->Prop}{s:Shared}{K:W.Frag}{x dx C f:Addr}{mA:Str->Option Value}{name:Str}{v:Value}
theorem get_map{expr:Bool}{Q:Value->Shared->Prop}(X:K.In s.heap)(I:ObjM s.heap x dx C mA)(hg:PySem.W.plainGet K C name=true)(hh:PySem.W.hasDictIn K C=true)
  (ha:PySem.W.findIn K (.ref C) name=some none) (hv:mA name=some v) (hv':PySem.W.handedIn v=true) (h:Q v { s with toks:=s.toks+1 }) :
  wpAny (model prog w) A (getAttr (.ref x) name expr) Q E s:=by
 obtain⟨od,J,hl⟩:=I.look
 exact PySem.W.get_value X J (PySem.W.plainGet_of hg).1 (PySem.W.findObj_own hh ha rfl (by rw[hl,hv])) hv' h
theorem get_meth{pl:Sem Bool}{Q:Value×List Value->Shared->Prop}(X:K.In s.heap)(I:ObjM s.heap x dx C mA)(hg:W.plainGet K C name=true)
  (hf:W.findIn K (.ref C) name=some (some (.ref f))) (ht:W.isFn K (.ref f)=true) (hv:mA name=none) (h:Q (.ref f,[.ref x]) s) :
  wpAny (model prog w) A (getMethod (.ref x) name pl) Q E s:=by
 obtain⟨od,J,hl⟩:=I.look
 exact W.method_fn X J (W.plainGet_of hg).1 (W.plainGet_of hg).2 hf (beq_iff_eq.mp ht) (by show(W.lookIn name od).map (·.isSome)=some false; rw[hl,hv]; rfl) h
theorem set_map{ns:List Str}{Q:Unit->Shared->Prop}(X:K.In s.heap)(I:ObjM s.heap x dx C mA)
  (hs:W.findIn K (.ref C) "__setattr__"=some (some (.builtin "object.__setattr__"))) (hp:W.plainOver K C=true) (ht:W.takerIn K C name=some none) (hh:W.hasDictIn K C=true)
  (hw:PySem.Within mA ns) (hsz:ns.length<=sizeLine)
  (h:∀ h',ObjM h' x dx C (λy=>if y=name then some v else mA y)->Heap.SameBut dx s.heap h'->Q () { s with heap:=h',toks:=s.toks+2 }) :
  wpAny (model prog w) A (setAttr (.ref x) name v) Q E s:=by
 obtain⟨od,J,hl⟩:=I.look
 refine W.set_plain X J hs (W.osa_open (s:={ s with toks:=s.toks+1 }) (r:=none) X J hp ht λb=>?_)
 obtain⟨cd,hc,hd'⟩:=W.any_some hh
 have hx:s.heap.get? x=some ⟨.ref C,some dx,.plain,#[]⟩:=I.obj
 refine wB (wQ (wB (wB (wpAny_loadPart hx (wB (W.Looks.here (s:={ s with toks:=s.toks+1 }) (W.looks_clsIn X hc) ?_))))))
 rw[hd']
 refine wQ (a:=some dx) (wB (wQ (wB ?_)))
 refine wpAny_nsSet1 (s:={ s with toks:=s.toks+1 }) I.ns λh' hn2 hs2=>?_
 obtain⟨oD,esD,epD,hoD,hdD,hcD⟩:=hn2.count (PySem.Within.cons name v hw)
 refine wpAny_bind (wpAny_lookBehind hoD (by rw[hdD]; exact pastItsLine_dict (Nat.le_trans hcD (by rw[List.length_cons]; lia))) ?_)
 exact wQ (h _ ⟨(hs2.2 _ (Ne.symm I.ne)).trans I.obj,hn2,I.ne⟩ hs2)
theorem make_map{R:Result->Shared->Prop}{vs:List Value}{kw:List (Str×Value)}(X:K.In s.heap)(hm:W.makesIn K C=true)
  (hi:W.findIn K (.ref C) "__init__"=some (some (.ref f))) (hf:W.typeIn K (.ref f)=some (.type "function"))
  (h:codeAny (model prog w) (A.under (.builtin "type.__call__" ⟨.ref C::vs,kw⟩)) (.call (.ref f) ⟨.ref (s.heap.objs.size+1)::vs,kw⟩) (W.InitBack (s.heap.objs.size+1) R)
   { s with heap:=(s.heap.push W.emptyDict).push (W.instObj C s.heap.objs.size) }) :
  codeAny (model prog w) A (.call (.ref C) ⟨vs,kw⟩) R s:=by
 obtain⟨hh,g,d,t,os⟩:=s
 exact W.make_core (W.makes_of X hm) (W.looks_findIn X hi) (λself=>W.bind_fn X self hf) (.inl rfl) h
end
noncomputable def zg3(f:Str)(v:V):List (Str×V)->List (Str×V)
 | []=>[(f,v)]
 | (g,x)::r=>if g=f then (g,v)::r else (g,x)::zg3 f v r
theorem zfF(f g:Str)(v:V):∀ fs:List (Str×V),(zg3 f v fs).lookup g=if g=f then some v else fs.lookup g
 | []=>by
  show List.lookup g [(f,v)]=_
  by_cases h:g=f
  ·have hb:(g==f)=true:=beq_iff_eq.mpr h
   simp only[List.lookup,hb,if_pos h]
  ·have hb:(g==f)=false:=beq_eq_false_iff_ne.mpr h
   simp only[List.lookup,hb,if_neg h]
 | (k,x)::r=>by
  have ih:=zfF f g v r
  rw[show zg3 f v ((k,x)::r)=(if k=f then (k,v)::r else (k,x)::zg3 f v r)from rfl]
  by_cases hk:k=f
  ·rw[if_pos hk]
   by_cases h:g=k
   ·have hb:(g==k)=true:=beq_iff_eq.mpr h
    simp only[List.lookup,hb,if_pos (h.trans hk)]
   ·have hb:(g==k)=false:=beq_eq_false_iff_ne.mpr h
    simp only[List.lookup,hb,if_neg (λe:g=f=>h (e.trans hk.symm))]
  ·rw[if_neg hk]
   by_cases h:g=k
   ·have hb:(g==k)=true:=beq_iff_eq.mpr h
    simp only[List.lookup,hb,if_neg (λe:g=f=>hk (h.symm.trans e))]
   ·have hb:(g==k)=false:=beq_eq_false_iff_ne.mpr h
    simp only[List.lookup,hb]
    exact ih
theorem zfM(f:Str)(v:V):∀ fs:List (Str×V),f∈(zg3 f v fs).map (·.1)/\∀ g,g∈fs.map (·.1)->g∈(zg3 f v fs).map (·.1)
 | []=>⟨by simp[zg3],λg h=>by simp at h⟩
 | (k,x)::r=>by
  obtain⟨i1,i2⟩:=zfM f v r
  rw[show zg3 f v ((k,x)::r)=(if k=f then (k,v)::r else (k,x)::zg3 f v r)from rfl]
  by_cases hk:k=f
  ·rw[if_pos hk]
   subst hk
   exact⟨by simp,λg h=>by simpa using h⟩
  ·rw[if_neg hk]
   refine⟨?_,λg h=>?_⟩
   ·rw[List.map_cons]
    exact lMc _ i1
   ·rw[List.map_cons]at h ⊢
    rcases List.mem_cons.mp h with e | e
    ·exact List.mem_cons.mpr (.inl e)
    ·exact lMc _ (i2 g e)
theorem zfK(f:Str)(v:V):∀ fs:List (Str×V),(zg3 f v fs).length<=fs.length+1
 | []=>by simp[zg3]
 | (k,x)::r=>by
  have ih:=zfK f v r
  rw[show zg3 f v ((k,x)::r)=(if k=f then (k,v)::r else (k,x)::zg3 f v r)from rfl]
  by_cases hk:k=f
  ·rw[if_pos hk,List.length_cons,List.length_cons]; lia
  ·rw[if_neg hk,List.length_cons,List.length_cons]; lia
theorem zgI.some_of{v:V}{o:Option Value}(r:zgI (some v) o):∃ u,o=some u/\zaK v u:=by
 cases o with
 | none=>exact(show False from r).elim
 | some u=>exact⟨u,rfl,r⟩
theorem zgI.none_of{o:Option Value}(r:zgI none o):o=none:=by
 cases o with
 | none=>rfl
 | some u=>exact(show False from r).elim
theorem handed_of{v:V}{u:Value}(r:zaK v u):W.handedIn u=true:=by
 cases v with
 | non=>cases (show u=Value.none from r); rfl
 | bl b=>cases (show u=Value.bool b from r); rfl
 | int i=>obtain⟨t,e⟩:=(show ∃ t,u=Value.int i t from r); cases e; rfl
 | str x=>obtain⟨t,e⟩:=(show ∃ t,u=Value.str x t from r); cases e; rfl
 | byt b=>obtain⟨t,e⟩:=(show ∃ t,u=Value.bytes b t from r); cases e; rfl
 | flt b=>obtain⟨t,e⟩:=(show ∃ t,u=Value.float b t from r); cases e; rfl
 | ref a=>cases (show u=Value.ref a from r); rfl
 | ty n=>cases (show u=Value.type n from r); rfl
section
variable {P:Program}{w:World}{H H':Hp}{h h':Heap}{a C dx:Addr}{fs fs':List (Str×V)}
theorem ziZ(hok:HOk P w H h)(e:H a=some (.ins C dx fs)):∃ mA,ObjM h a dx C mA/\(∀ f,zgI (fs.lookup f) (mA f))/\PySem.Within mA (fs.map (·.1))/\fs.length<=1000/\H dx=some (.own a):=by
 obtain⟨d,z,ne,ob,mA,n,r,q⟩:=(show zbz P w H h a (.ins C dx fs)from hok a _ e)
 exact⟨mA,⟨ob,n,ne⟩,r,q,z,d⟩
end
structure Cls(K:W.Frag)(C:Addr):Prop where
 pg:W.plainGet K C Str.empty=true
 hd:W.hasDictIn K C=true
 po:W.plainOver K C=true
 sa:W.findIn K (.ref C) "__setattr__"=some (some (.builtin "object.__setattr__"))
theorem Cls.get{K:W.Frag}{C:Addr}(c:Cls K C)(f:Str):W.plainGet K C f=true:=c.pg
noncomputable def zf1(K:W.Frag)(C:Addr)(f:Str):Prop:=W.findIn K (.ref C) f=some none
theorem zf1.taker{K:W.Frag}{C:Addr}{f:Str}(n:zf1 K C f):W.takerIn K C f=some none:=by
 unfold W.takerIn
 rw[show W.findIn K (.ref C) f=some none from n]
 rfl
structure Con(K:W.Frag)(C:Addr)(f:Str)(v:V)(u:Value):Prop where
 at_:W.findIn K (.ref C) f=some (some u)
 rel:zaK v u
 get:W.specialIn K u "__get__"=some none
 cp:W.copiedNames.contains f=false
structure Meth(K:W.Frag)(C:Addr)(m:Str)(f:Addr):Prop where
 at_:W.findIn K (.ref C) m=some (some (.ref f))
 fn:W.isFn K (.ref f)=true
 kp:W.keepIn K (.ref f)=true
section
variable {X:Cx}{pins:List (Addr×Obj)}{σ:St}{H:Hp}{s:Shared}{a C dx:Addr}{fs:List (Str×V)}{f:Str}{v:V}{A:Around}{E:Value->Shared->Prop}
theorem getattr_ok{b:Bool}{Q:Value->Shared->Prop}(I:Inv X pins σ H s)(e:H a=some (.ins C dx fs))(c:Cls X.K C)(n:zf1 X.K C f)(l:fs.lookup f=some v)
  (h:∀ u s',Inv X pins σ H s'->zaK v u->Q u s'):wpAny (model X.prog X.w) A (getAttr (.ref a) f b) Q E s:=by
 obtain⟨mA,O,r,_,_,_⟩:=ziZ I.hok e
 obtain⟨u,hu,ru⟩:=zgI.some_of (v:=v) (o:=mA f) (by rw[<- l]; exact r f)
 exact get_map I.kIn O (c.get f) c.hd n hu (handed_of ru) (h u _ (I.tok _) ru)
theorem zgB{m:Str}{g:Addr}{pl:Sem Bool}{Q:Value×List Value->Shared->Prop}(I:Inv X pins σ H s)(e:H a=some (.ins C dx fs))(c:Cls X.K C)(k:Meth X.K C m g)(l:fs.lookup m=none)
  (h:Q (.ref g,[.ref a]) s):wpAny (model X.prog X.w) A (getMethod (.ref a) m pl) Q E s:=by
 obtain⟨mA,O,r,_,_,_⟩:=ziZ I.hok e
 have hn:mA m=none:=zgI.none_of (by rw[<- l]; exact r m)
 exact get_meth I.kIn O (c.get m) k.at_ k.fn hn h
theorem setattr_ok{y:V}{u:Value}{Q:Unit->Shared->Prop}(I:Inv X pins σ H s)(e:H a=some (.ins C dx fs))(c:Cls X.K C)(n:zf1 X.K C f)(hl:fs.length < 1000)(ry:zaK y u)
  (h:∀ s',Inv X pins σ (upd H a (.ins C dx (zg3 f y fs))) s'->Q () s'):wpAny (model X.prog X.w) A (setAttr (.ref a) f u) Q E s:=by
 obtain⟨mA,O,r,wi,_,ho⟩:=ziZ I.hok e
 have hz:(fs.map (·.1)).length<=sizeLine:=by rw[List.length_map,sizeLine_eq]; lia
 refine set_map I.kIn O c.sa c.po n.taker c.hd wi hz λh' O' sb=>h _ ?_
 have hd:∃ o,h'.get? dx=some o:=let ⟨o,_,_,e',_⟩:=O'.ns; ⟨o,e'⟩
 refine I.write (x:=a) (e:=dx) (by rw[e]; exact True.intro) (.inr ho) (λb q hb z=>(sb.2 b hb).trans z) hd ?_
 refine⟨by rw[zak O.ne]; exact ho,?_,O.ne,O'.obj,_,O'.ns,λg=>?_,λg hg=>?_⟩
 ·have:=zfK f y fs; lia
 ·show zgI ((zg3 f y fs).lookup g) (if g=f then some u else mA g)
  rw[zfF]
  by_cases q:g=f
  ·rw[if_pos q,if_pos q]; exact ry
  ·rw[if_neg q,if_neg q]; exact r g
 ·by_cases q:g=f
  ·rw[q]; exact(zfM f y fs).1
  ·refine (zfM f y fs).2 g (wi g λz=>hg ?_)
   show(if g=f then some u else mA g)=none
   rw[if_neg q]; exact z
theorem Inv.made(I:Inv X pins σ H s):Inv X pins σ (upd (upd H s.heap.objs.size (.own (s.heap.objs.size+1))) (s.heap.objs.size+1) (.ins C s.heap.objs.size []))
  { s with heap:=(s.heap.push W.emptyDict).push (W.instObj C s.heap.objs.size) }:=by
 have e1:(s.heap.push W.emptyDict).get? s.heap.objs.size=some W.emptyDict:=hPz s.heap rfl
 have e2:((s.heap.push W.emptyDict).push (W.instObj C s.heap.objs.size)).get? (s.heap.objs.size+1)=some (W.instObj C s.heap.objs.size):=by
  have:=hPz (s.heap.push W.emptyDict) (o:=W.instObj C s.heap.objs.size) rfl
  rwa [Heap.size_push]at this
 have e3:(s.heap.push W.emptyDict).Ns s.heap.objs.size (λ_=>none):=⟨W.emptyDict,#[],_,e1,rfl,(λe he=>absurd he (by simp)),λ_=>rfl⟩
 have I1:=I.laid (a:=s.heap.objs.size) (o:=.own (s.heap.objs.size+1)) (h':=s.heap.push W.emptyDict) (t':=s.toks) (λb u q=>hPs _ q) (nLr _) ⟨_,e1⟩
 refine I1.laid (a:=s.heap.objs.size+1) (o:=.ins C s.heap.objs.size []) (t':=s.toks) (λb u q=>hPs _ q) (Nat.le_of_eq (Heap.size_push _ _)) ?_
 have ne:s.heap.objs.size≠s.heap.objs.size+1:=nNl (Nat.lt_succ_self _)
 refine⟨by rw[zak ne,zal],Nat.zero_le _,ne,e2,λ_=>none,(Heap.Ns1.of_empty e3).at λo q=>Heap.get?_push_of_some _ q,λ_=>True.intro,λy hy=>absurd rfl hy⟩
theorem attr_of{prog:Program}{w:World}{env:Env}{e:Expr}{f:Str}{pos:Pos}{s:Shared}{Q:Value->Shared->Prop}(hb:attributeBase e f env (eval e env)=eval e env)
  (h:wpAny (model prog w) A (eval e env) (λo s₁=>wpAny (model prog w) A (getAttr o f true) Q E s₁) E s):wpAny (model prog w) A (eval (.Attribute e f pos) env) Q E s :=
 Attribute_any_ h (by rw[arm_eval_Attribute,hb])
end
noncomputable def tFld(K:W.Frag)(ta:TE)(f:Str):TE:=λσ H Q=>ta σ H λx H1=>∃ a C dx fs v,x=.ref a/\H1 a=some (.ins C dx fs)/\Cls K C/\zf1 K C f/\fs.lookup f=some v/\Q v H1
noncomputable def sFld(K:W.Frag)(ta tv:TE)(f:Str):TS:=λD σ H=>tv σ H λy H1=>ta σ H1 λx H2=>∃ a C dx fs,x=.ref a/\H2 a=some (.ins C dx fs)/\Cls K C/\zf1 K C f/\fs.length < 1000 /\
 D.nx σ (upd H2 a (.ins C dx (zg3 f y fs)))
section
variable {X:Cx}{o e value:Expr}{f:Str}{pos pos' tpos:Pos}{ta tv:TE}
theorem pe_fld(he:PE X e ta)(hb:attributeBase e f X.env (eval e X.env)=eval e X.env):PE X (.Attribute e f pos) (tFld X.K ta f):=by
 intro pins s σ H Q I h
 refine attr_of hb (thn (he pins s σ H _ I h) λu s1 ⟨x,H1,I1,rx,a,C,dx,fs,v,ex,ea,c,n,l,q⟩=>?_)
 subst ex
 obtain rfl:u=Value.ref a:=rx
 exact getattr_ok I1 ea c n l λu' s2 I2 ru=>⟨v,H1,I2,ru,q⟩
theorem ps_fld(ha:PE X o ta)(hv:PE X value tv)(hs:swapsWith value (some (.Attribute o f pos')) pos.line X.env=pure false):PS X (.Assign [.Attribute o f pos'] value pos) (sFld X.K ta tv f):=by
 intro pins s σ H D I h
 refine plainObj_wpAny_Assign_Attribute (thn (hv pins s σ H _ I h) λu s1 ⟨y,H1,I1,ry,q⟩=>thn (ha pins s1 σ H1 _ I1 q) λov s2 ⟨x,H2,I2,rx,a,C,dx,fs,ex,ea,c,n,l,q2⟩=>?_) hs
 subst ex
 obtain rfl:ov=Value.ref a:=rx
 exact setattr_ok I2 ea c n l ry λs3 I3=>⟨σ,_,I3,q2⟩
end
section
variable {X:Cx}{pins:List (Addr×Obj)}{σ:St}{H:Hp}{s:Shared}{A:Around}{E:Value->Shared->Prop}{Q:Value->Shared->Prop}{c:Value}{b:Bool}
inductive TyOf(K:PySem.W.Frag)(H:Hp):V->Value->Prop where
 | non:TyOf K H .non (.type "NoneType")
 | bl (x:Bool):TyOf K H (.bl x) (.type "bool")
 | int (i:Int):TyOf K H (.int i) (.type "int")
 | str (x:Str):TyOf K H (.str x) (.type "str")
 | flt (x:UInt64):TyOf K H (.flt x) (.type "float")
 | lst {a:Addr} {xs:List V} (e:H a=some (.lst xs)):TyOf K H (.ref a) (.type "list")
 | frz {a:Addr} {o:Obj} {xs:List V} (e:H a=some (.frz o (.lst xs))):TyOf K H (.ref a) (.type "list")
 | tup {a:Addr} {xs:List V} (e:H a=some (.tup xs)):TyOf K H (.ref a) (.type "tuple")
 | dK {a:Addr} {kvs:List (Key×V)} (e:H a=some (.dK kvs)):TyOf K H (.ref a) (.type "dict")
 | dT {a:Addr} {kvs:List (List Key×V)} (e:H a=some (.dT kvs)):TyOf K H (.ref a) (.type "dict")
 | ins {a C dx:Addr} {fs:List (Str×V)} (e:H a=some (.ins C dx fs)) (cl:Cls K C) (ha:PySem.W.findIn K (.ref C) "__class__"=some (some (.builtin "object.__class__")))
   (hn:PySem.W.specialIn K (.builtin "object.__class__") "__get__"=some (some (.builtin "getset_descriptor.__get__"))) (htk:PySem.W.takesIn K (.builtin "object.__class__")=some true)
   (hm:PySem.W.mroIn K C (.type "object")=some true):TyOf K H (.ref a) (.ref C)
end
structure Room(k:Nat)(A:Around):Prop where
 hd:A.handled=none
 dp:A.depth+3 * k+5 < recursionLimit
 un:A.units+16 * k+200 < cLine
theorem Room.mono{j k:Nat}{A:Around}(r:Room k A)(h:j<=k):Room j A:=⟨r.hd,by have:=r.dp; lia,by have:=r.un; lia⟩
theorem Room.deeper{k:Nat}{A:Around}(r:Room (k+1) A)(env:Env):Room k (A.deeper env) :=
 ⟨r.hd,by have:=r.dp; show A.depth+1+3 * k+5 < _; lia,by have:=r.un; show A.units+3+16 * k+200 < _; lia⟩
theorem make_depth{A:Around}{C:Addr}{us:List Value}{kw:List (Str×Value)}:(A.under (.builtin "type.__call__" ⟨.ref C::us,kw⟩)).depth=A.depth+1:=by
 first | rfl | simp[Around.under,Code.weight,Code.isCreation,Code.isGuard,Code.isCaller,Code.frames,Code.isFrame,guardIds]
theorem make_units{A:Around}{C:Addr}{us:List Value}{kw:List (Str×Value)}:(A.under (.builtin "type.__call__" ⟨.ref C::us,kw⟩)).units=A.units+1:=by
 first | rfl | simp[Around.under,Code.cUnits,Code.frames,Code.isFrame]
theorem Room.make{k:Nat}{A:Around}(r:Room (k+1) A)(C:Addr)(us:List Value)(kw:List (Str×Value)):Room k (A.under (.builtin "type.__call__" ⟨.ref C::us,kw⟩)) :=
 ⟨r.hd,by have:=r.dp; rw[make_depth]; lia,by have:=r.un; rw[make_units]; lia⟩
theorem Room.depth{k:Nat}{A:Around}(r:Room k A):A.depth < recursionLimit:=by have:=r.dp; lia
theorem Room.units{k:Nat}{A:Around}(r:Room k A):A.units+64 < cLine:=by have:=r.un; lia
noncomputable def tNil:TA:=λ_ H Q=>Q [] H
noncomputable def tCons(ta:TE)(tr:TA):TA:=λσ H Q=>ta σ H λx H1=>tr σ H1 λxs H2=>Q (x::xs) H2
section
variable {X:Cx}{e:Expr}{es:List Expr}{te:TE}{t:TA}{pos:Pos}
theorem zjy:PA X [] tNil:=λ_ _ _ _ H Q I h=>Calls.spliced_nil ⟨[],H,I,.nil,h⟩
theorem zeL(ha:PE X e te)(hr:PA X es t)(hs:starEach (e::es) X.env=(false,eval e X.env)::starEach es X.env:=by rfl):PA X (e::es) (tCons te t):=by
 intro pos pins s σ H Q I h
 rw[hs]
 show wpAny _ _ (spliced ((false,eval e X.env)::backTo pos (starEach es X.env))) _ _ s
 refine Calls.spliced_cons (thn (ha pins s σ H _ I h) λu s1 ⟨x,H1,I1,r1,q1⟩=>?_)
 exact thn (hr pos pins s1 σ H1 _ I1 q1) λus s2 hu=>(by obtain⟨xs,H2,I2,r2,q2⟩:=hu; exact⟨x::xs,H2,I2,.cons r1 r2,q2⟩)
noncomputable def tTup(t:TA):TE:=λσ H Q=>t σ H λxs H1=>xs.length<=sizeLine/\∀ p,H1 p=none->Q (.ref p) (upd H1 p (.tup xs))
noncomputable def tLst(t:TA):TE:=λσ H Q=>t σ H λxs H1=>xs.length<=sizeLine/\∀ p,H1 p=none->Q (.ref p) (upd H1 p (.lst xs))
theorem pe_tup{x1}(h:PA X es t):PE X (.Tuple es x1 pos) (tTup t):=by
 intro pins s σ H Q I hq
 refine wpAny_Tuple_spliced (thn (h pos pins s σ H _ I hq) λus s1 ⟨xs,H1,I1,r,z,q⟩=>⟨by rw[<- r.length]; exact z,?_⟩)
 have hf:H1 s1.heap.objs.size=none:=I1.hok.fresh (nLr _)
 refine⟨.ref s1.heap.objs.size,upd H1 s1.heap.objs.size (.tup xs),I1.laid (t':=s1.toks) (λb u e=>hPs _ e) (nLr _) ?_,rfl,q _ hf⟩
 exact⟨z,us,r,⟨_,hPz _ rfl,rfl,_,rfl⟩⟩
theorem pe_lst(h:PA X es t):PE X (.List es pos) (tLst t):=by
 intro pins s σ H Q I hq
 refine wpAny_List_spliced (thn (h pos pins s σ H _ I hq) λus s1 ⟨xs,H1,I1,r,z,q⟩=>⟨by rw[<- r.length]; exact z,?_⟩)
 have hf:H1 s1.heap.objs.size=none:=I1.hok.fresh (nLr _)
 refine⟨.ref s1.heap.objs.size,upd H1 s1.heap.objs.size (.lst xs),I1.laid (t':=s1.toks) (λb u e=>hPs _ e) (nLr _) ?_,rfl,q _ hf⟩
 exact⟨z,us,0,r,hPz _ rfl⟩
end
noncomputable abbrev Sp:=List V->Hp->VK->XK->Prop
noncomputable abbrev CXT:=List Env->Hp->Shared->XK->Value->Shared->Prop
structure Env0(P:Program)(w:World)(K:W.Frag)(mg:Str->Option Value)(base:Heap)(A:Around)(outer:List Env)(s:Shared)(H:Hp):Prop where
 frames:A.frames=some outer
 mod:Mod K mg base
 bs:∀ b o,base.get? b=some o->s.heap.get? b=some o/\H b=none
 bsz:base.objs.size<=s.heap.objs.size
 funs:s.heap.FunFrames base outer
 frf:∀ b∈frs outer,H b=none
 hok:HOk P w H s.heap
 bare:AllBare s.gens
noncomputable def CE(outer:List Env)(P:Program)(w:World)(H:Hp)(s:Shared)(Q:VK)(u:Value)(s':Shared):Prop :=
 ∃ v H',s'.os=s.os/\AllBare s'.gens/\Un (frs outer) [] H H' s.heap s'.heap/\HOk P w H' s'.heap/\zaK v u/\Q v H'
noncomputable def CR(CX:CXT)(outer:List Env)(P:Program)(w:World)(H:Hp)(s:Shared)(Q:VK)(E:XK)(r:Result)(s':Shared):Prop :=
 match r with
 | .ok (.ret u)=>CE outer P w H s Q u s'
 | .ok _=>False
 | .error e=>CX outer H s E e s'
structure FnOk(P:Program)(w:World)(K:W.Frag)(mg:Str->Option Value)(base:Heap)(CX:CXT)(k:Nat)(f:Addr)(fd:FuncData)(ps:List Str)(sp:Sp):Prop where
 len:∀ vs H Q E,sp vs H Q E->vs.length=ps.length
 run:∀ (A:Around) (outer:List Env) (s:Shared) (H:Hp) (args:Args) (us:List Value) (vs:List V) (Q:VK) (E:XK),Room k A->Env0 P w K mg base A outer s H->BindsTo s fd args (ps.zip us)->zaM vs us->sp vs H Q E ->
  codeAny (model P w) A (.call (.ref f) args) (CR CX outer P w H s Q E) s
theorem FnOk.mono{P:Program}{w:World}{K:W.Frag}{mg:Str->Option Value}{base:Heap}{CX:CXT}{j k:Nat}{f:Addr}{fd:FuncData}{ps:List Str}{sp:Sp}(F:FnOk P w K mg base CX j f fd ps sp)(h:j<=k) :
  FnOk P w K mg base CX k f fd ps sp:=⟨F.len,λA outer s H args us vs Q E hr=>F.run A outer s H args us vs Q E (hr.mono h)⟩
theorem Env0.make{P:Program}{w:World}{K:W.Frag}{mg:Str->Option Value}{base:Heap}{A:Around}{outer:List Env}{s:Shared}{H:Hp}(e:Env0 P w K mg base A outer s H)(C:Addr)(us:List Value)(kw:List (Str×Value)) :
  Env0 P w K mg base (A.under (.builtin "type.__call__" ⟨.ref C::us,kw⟩)) outer s H:=⟨by first | exact e.frames | (simpa [Around.under,Code.envs,Code.isFrame,pushEnvs] using e.frames),e.mod,e.bs,e.bsz,e.funs,e.frf,e.hok,e.bare⟩
section
variable {X:Cx}{pins:List (Addr×Obj)}{σ:St}{H:Hp}{s s':Shared}
theorem Inv.env0(I:Inv X pins σ H s):Env0 X.prog X.w X.K X.mg X.base X.A X.stack s H :=
 ⟨I.ok.frames,I.ok.mod,I.bs,Nat.le_trans I.ok.bsz I.sz,I.stack,I.stkFree,I.hok,I.bare⟩
theorem Inv.after{Q:VK}{u:Value}(I:Inv X pins σ H s)(h:CE X.stack X.prog X.w H s Q u s'):EP X pins σ Q u s':=by
 obtain⟨v,H',os,bare,un,hok,r,q⟩:=h
 obtain⟨hh,g,d,t,os'⟩:=s'
 obtain rfl:os'=s.os:=os
 exact⟨v,H',I.call (h':=hh) (g':=g) (d':=d) (t':=t) (ch:=[]) un hok bare (λb z=>absurd z (by simp)),r,q⟩
end
noncomputable def tCall(sp:Sp)(dvs:List V)(E:XK)(t:TA):TE:=λσ H Q=>t σ H λvs H1=>sp (vs++dvs) H1 Q E
noncomputable def tMeth(C:Addr)(m:Str)(sp:Sp)(dvs:List V)(E:XK)(ta:TE)(t:TA):TE:=λσ H Q=>ta σ H λx H1=>∃ a dx fs,x=.ref a/\H1 a=some (.ins C dx fs)/\fs.lookup m=none /\
 t σ H1 λvs H2=>sp (x::(vs++dvs)) H2 Q E
noncomputable def tMake(C:Addr)(sp:Sp)(dvs:List V)(E:XK)(t:TA):TE:=λσ H Q=>t σ H λvs H1=>∀ x dx,H1 x=none->H1 dx=none->dx≠x ->
 sp (.ref x::(vs++dvs)) (upd (upd H1 dx (.own x)) x (.ins C dx [])) (λv H2=>v=.non/\Q (.ref x) H2) E
noncomputable def zcl(K:W.Frag)(fd:FuncData)(ps:List Str)(ds:List Value):Prop :=
 ∀ (s:Shared) (us:List Value),K.In s.heap->(us++ds).length=ps.length->BindsTo s fd ⟨us,[]⟩ (ps.zip (us++ds))
theorem zcl.all{K:W.Frag}{fd:FuncData}{ps:List Str}(h:∀ us:List Value,us.length=ps.length->bindArgs fd ⟨us,[]⟩=pure (ps.zip us)):zcl K fd ps []:=λs us _ hl=>by
 rw[List.append_nil]at hl ⊢
 exact .of_eq (h us hl)
noncomputable def zdv(CX:CXT)(X:Cx)(E:XK):Prop:=∀ (pins:List (Addr×Obj)) (σ:St) (H:Hp) (s:Shared) (e:Value) (s':Shared),Inv X pins σ H s->CX X.stack H s E e s'->X.xe e s'
section
variable {X:Cx}{CX:CXT}{k:Nat}{f C:Addr}{fd:FuncData}{ps:List Str}{sp:Sp}{dvs:List V}{ds:List Value}{E:XK}{x m:Str}{p pos apos:Pos}{e o:Expr}{es:List Expr}{ta:TE}{t:TA}
theorem run_fn{pins:List (Addr×Obj)}{σ:St}{H:Hp}{s:Shared}{Q:VK}{us:List Value}{vs:List V}(F:FnOk X.prog X.w X.K X.mg X.base CX k f fd ps sp)(hr:Room k X.A)(hb:zcl X.K fd ps ds)(hd:zaM dvs ds)(hx:zdv CX X E)
  (I:Inv X pins σ H s) (r:zaM vs us) (h:sp (vs++dvs) H Q E):wpAny (model X.prog X.w) X.A (call (.ref f) us) (EP X pins σ Q) X.xe s:=by
 have r2:zaM (vs++dvs) (us++ds):=r.append hd
 have hl:(us++ds).length=ps.length:=by rw[<- r2.length]; exact F.len _ _ _ _ h
 refine wpAny_call (codeAny_mono (F.run X.A X.stack s H ⟨us,[]⟩ (us++ds) (vs++dvs) Q E hr I.env0 (hb s us I.kIn hl) r2 h) λr s' hq=>?_)
 cases r with
 | error e=>exact hx pins σ H s e s' I hq
 | ok fl =>
  cases fl with
  | ret u=>exact I.after hq
  | next=>exact False.elim hq
  | brk=>exact False.elim hq
  | cont=>exact False.elim hq
theorem pe_call(F:FnOk X.prog X.w X.K X.mg X.base CX k f fd ps sp)(hr:Room k X.A)(hg:Gl X x)(hm:X.mg x=some (.ref f))(hk:W.keepIn X.K (.ref f)=true)(hb:zcl X.K fd ps ds)(hd:zaM dvs ds)(hx:zdv CX X E)
  (ha:PA X (e::es) t) (hdb:(x==("__debug__":Str))=false:=by decide) (he:starEach (e::es) X.env=(false,eval e X.env)::starEach es X.env:=by rfl) (hpl:(backTo pos (starEach es X.env)).any (·.1)=false:=by rfl) :
  PE X (.Call (.Name x p) (e::es) [] pos) (tCall sp dvs E t):=by
 intro pins s σ H Q I h
 refine wpAny_Call_Name_kw (zd5 I hg hm ?_ hdb)
 refine W.callWith_K (h₀:=X.base) I.ok.mod.kin hk (thn (ha pos pins s σ H _ I h) λus s1 ⟨vs,H1,I1,r,q⟩=>⟨I1.kIn,?_⟩) he hpl
 exact run_fn F hr hb hd hx I1 r q
theorem pe_meth{pl:Sem Bool}(he:PE X o ta)(c:Cls X.K C)(hm:Meth X.K C m f)(F:FnOk X.prog X.w X.K X.mg X.base CX k f fd ps sp)(hr:Room k X.A)(hb:zcl X.K fd ps ds)(hd:zaM dvs ds)(hx:zdv CX X E)(ha:PA X (e::es) t)
  (hst:starEach (e::es) X.env=(false,eval e X.env)::starEach es X.env:=by rfl) (hpl:(backTo pos (starEach es X.env)).any (·.1)=false:=by rfl)
  (ht:eval (.Call (.Attribute o m apos) (e::es) [] pos) X.env=(do
   let ov <- eval o X.env
   standAt apos.atName
   let (f,first) <- holding [ov] (getMethod ov m pl)
   callWith pos f first (backTo pos (starEach (e::es) X.env)) (backToKw pos (keywordEach [] X.env))):=by rfl) :
  PE X (.Call (.Attribute o m apos) (e::es) [] pos) (tMeth C m sp dvs E ta t):=by
 intro pins s σ H Q I h
 refine W.methodCall_KW (pl:=pl) (thn (he pins s σ H _ I h) λu s1 ⟨x,H1,I1,rx,a,dx,fs,ex,ea,l,q⟩=>?_) ht
 subst ex
 obtain rfl:u=Value.ref a:=rx
 refine zgB I1 ea c hm l ?_
 refine W.callWith_K (first:=[.ref a]) (h₀:=X.base) I.ok.mod.kin hm.kp (thn (ha pos pins s1 σ H1 _ I1 q) λus s2 ⟨vs,H2,I2,r,q2⟩=>⟨I2.kIn,?_⟩) hst hpl
 exact run_fn (us:=.ref a::us) (vs:=.ref a::vs) F hr hb hd hx I2 (.cons rfl r) q2
theorem pe_meth0{pl:Sem Bool}(he:PE X o ta)(c:Cls X.K C)(hm:Meth X.K C m f)(F:FnOk X.prog X.w X.K X.mg X.base CX k f fd ps sp)(hr:Room k X.A)(hb:zcl X.K fd ps ds)(hd:zaM dvs ds)(hx:zdv CX X E)
  (ht:eval (.Call (.Attribute o m apos) [] [] pos) X.env=(do
   let ov <- eval o X.env
   standAt apos.atName
   let (f,first) <- holding [ov] (getMethod ov m pl)
   callWith pos f first (backTo pos (starEach [] X.env)) (backToKw pos (keywordEach [] X.env))):=by rfl) :
  PE X (.Call (.Attribute o m apos) [] [] pos) (tMeth C m sp dvs E ta tNil):=by
 intro pins s σ H Q I h
 refine W.methodCall_KW (pl:=pl) (thn (he pins s σ H _ I h) λu s1 ⟨x,H1,I1,rx,a,dx,fs,ex,ea,l,q⟩=>?_) ht
 subst ex
 obtain rfl:u=Value.ref a:=rx
 refine zgB I1 ea c hm l ?_
 exact W.callWith_K0 (first:=[.ref a]) I1.kIn hm.kp (run_fn (us:=[.ref a]) (vs:=[.ref a]) F hr hb hd hx I1 (.cons rfl .nil) q)
structure Mk(K:W.Frag)(C f:Addr):Prop where
 makes:W.makesIn K C=true
 init:W.findIn K (.ref C) "__init__"=some (some (.ref f))
 fn:W.isFn K (.ref f)=true
 kp:W.keepIn K (.ref C)=true
theorem zjp{pins:List (Addr×Obj)}{σ:St}{H:Hp}{s:Shared}{Q:VK}{us:List Value}{vs:List V}(M:Mk X.K C f)(F:FnOk X.prog X.w X.K X.mg X.base CX k f fd ps sp)(hr:Room (k+1) X.A)(hb:zcl X.K fd ps ds)(hd:zaM dvs ds)
  (hx:zdv CX X E) (I:Inv X pins σ H s) (r:zaM vs us)
  (h:∀ x dx,H x=none->H dx=none->dx≠x->sp (.ref x::(vs++dvs)) (upd (upd H dx (.own x)) x (.ins C dx [])) (λv H2=>v=.non/\Q (.ref x) H2) E) :
  wpAny (model X.prog X.w) X.A (call (.ref C) us) (EP X pins σ Q) X.xe s:=by
 have hq:=h (s.heap.objs.size+1) s.heap.objs.size (I.hok.fresh (Nat.le_succ _)) (I.hok.fresh (nLr _)) (nNl (Nat.lt_succ_self _))
 have I2:=Inv.made (C:=C) I
 have r2:zaM (V.ref (s.heap.objs.size+1)::(vs++dvs)) (Value.ref (s.heap.objs.size+1)::(us++ds)):=.cons rfl (r.append hd)
 have hl:(Value.ref (s.heap.objs.size+1)::us++ds).length=ps.length:=by
  have e:=r2.length
  rw[F.len _ _ _ _ hq]at e
  exact e.symm
 refine wpAny_call (make_map (f:=f) I.kIn M.makes M.init (beq_iff_eq.mp M.fn) (codeAny_mono (F.run _ X.stack _ _ ⟨Value.ref (s.heap.objs.size+1)::us,[]⟩ (Value.ref (s.heap.objs.size+1)::(us++ds)) _ _ E (hr.make C us [])
  (I2.env0.make C us []) (hb _ (Value.ref (s.heap.objs.size+1)::us) I2.kIn hl) r2 hq) λr s' hq'=>?_))
 cases r with
 | error e=>exact hx pins σ _ _ e s' I2 hq'
 | ok fl =>
  cases fl with
  | ret u =>
   obtain⟨v,H',I3,rv,ev,q3⟩:=I2.after hq'
   subst ev
   exact⟨rv,⟨V.ref (s.heap.objs.size+1),H',I3,rfl,q3⟩⟩
  | next=>exact False.elim hq'
  | brk=>exact False.elim hq'
  | cont=>exact False.elim hq'
theorem pe_make(M:Mk X.K C f)(F:FnOk X.prog X.w X.K X.mg X.base CX k f fd ps sp)(hr:Room (k+1) X.A)(hg:Gl X x)(hm:X.mg x=some (.ref C))(hb:zcl X.K fd ps ds)(hd:zaM dvs ds)(hx:zdv CX X E)
  (ha:PA X (e::es) t) (hdb:(x==("__debug__":Str))=false:=by decide) (he:starEach (e::es) X.env=(false,eval e X.env)::starEach es X.env:=by rfl) (hpl:(backTo pos (starEach es X.env)).any (·.1)=false:=by rfl) :
  PE X (.Call (.Name x p) (e::es) [] pos) (tMake C sp dvs E t):=by
 intro pins s σ H Q I h
 refine wpAny_Call_Name_kw (zd5 I hg hm ?_ hdb)
 refine W.callWith_K (h₀:=X.base) I.ok.mod.kin M.kp (thn (ha pos pins s σ H _ I h) λus s1 ⟨vs,H1,I1,r,q⟩=>⟨I1.kIn,?_⟩) he hpl
 exact zjp M F hr hb hd hx I1 r q
theorem pe_make0(M:Mk X.K C f)(F:FnOk X.prog X.w X.K X.mg X.base CX k f fd ps sp)(hr:Room (k+1) X.A)(hg:Gl X x)(hm:X.mg x=some (.ref C))(hb:zcl X.K fd ps ds)(hd:zaM dvs ds)(hx:zdv CX X E)
  (hdb:(x==("__debug__":Str))=false:=by decide):PE X (.Call (.Name x p) [] [] pos) (tMake C sp dvs E tNil):=by
 intro pins s σ H Q I h
 refine wpAny_Call_Name_kw (zd5 I hg hm ?_ hdb)
 exact W.callWith_K0 I.kIn M.kp (zjp (us:=[]) M F hr hb hd hx I .nil h)
end
section
variable {X:Cx}{CX:CXT}{k:Nat}{f C:Addr}{fd:FuncData}{ps ks:List Str}{sp:Sp}{E:XK}{x m:Str}{p pos apos kpos:Pos}{e o:Expr}{es:List Expr}{kws:List Keyword}{te ta:TE}{t tk:TA}{nm:Option Str}
structure KBinds(K:W.Frag)(fd:FuncData)(ps ks:List Str)(g:List Value->List Value->List Value)(gV:List V->List V->List V):Prop where
 to:∀ (s:Shared) (us ws:List Value),K.In s.heap->(g us ws).length=ps.length->BindsTo s fd ⟨us,ks.zip ws⟩ (ps.zip (g us ws))
 rel:∀ {vs:List V} {us:List Value} {zs:List V} {ws:List Value},zaM vs us->zaM zs ws->zaM (gV vs zs) (g us ws)
variable {g:List Value->List Value->List Value}{gV:List V->List V->List V}
end
structure FnScope(N P:List Str)(sc:Scope):Prop where
 kind:sc.kind=.function
 co:sc.isCoroutine=false
 gen:sc.isGenerator=false
 nd:N.Nodup
 pre:N.take P.length=P
 par:∀ x∈P,sc.names.lookup x=some .local∨sc.names.lookup x=some .cell
 nofree:∀ y∈sc.names,y.2≠.free
theorem zij{kindOf:Str->Option NameKind}{x:Str}:∀ {binds:List (Str×Value)} {m:Str->Option Value},(∀ v,(x,v)∉binds)->bindL kindOf binds m x=m x
 | [],_,_=>rfl
 | (n,v)::r,m,h=>by
  unfold bindL
  rw[zij λw hw=>h w (List.mem_cons_of_mem _ hw)]
  split
  ·have:x≠n:=by rintro rfl; exact h v List.mem_cons_self
   simp[this]
  ·rfl
theorem zil{kindOf:Str->Option NameKind}{x:Str}:∀ {binds:List (Str×Value)} {m:Str->Option Value},(∀ v,(x,v)∉binds)->bindC kindOf binds m x=m x
 | [],_,_=>rfl
 | (n,v)::r,m,h=>by
  unfold bindC
  rw[zil λw hw=>h w (List.mem_cons_of_mem _ hw)]
  split
  ·rfl
  ·have:x≠n:=by rintro rfl; exact h v List.mem_cons_self
   simp[this]
theorem zik{kindOf:Str->Option NameKind}{x:Str}{v:Value}:∀ {P:List Str} {vs:List Value} {i:Nat} {m:Str->Option Value},P.Nodup->P[i]?=some x->vs[i]?=some v->kindOf x=some .local ->
  bindL kindOf (P.zip vs) m x=some v
 | [],_,_,_,_,h,_,_=>by simp at h
 | _::_,[],_,_,_,_,h,_=>by simp at h
 | p::P,w::vs,0,m,nd,h1,h2,hk=>by
  simp at h1 h2; subst h1; subst h2
  show bindL kindOf ((p,w)::P.zip vs) m p=_
  unfold bindL
  rw[zij λv hv=>(List.nodup_cons.mp nd).1 (List.of_mem_zip hv).1,if_pos hk]
  simp
 | p::P,w::vs,i+1,m,nd,h1,h2,hk=>by
  show bindL kindOf ((p,w)::P.zip vs) m x=_
  unfold bindL
  exact zik (i:=i) (List.nodup_cons.mp nd).2 (by simpa using h1) (by simpa using h2) hk
theorem zim{kindOf:Str->Option NameKind}{x:Str}{v:Value}:∀ {P:List Str} {vs:List Value} {i:Nat} {m:Str->Option Value},P.Nodup->P[i]?=some x->vs[i]?=some v->kindOf x≠some .local ->
  bindC kindOf (P.zip vs) m x=some v
 | [],_,_,_,_,h,_,_=>by simp at h
 | _::_,[],_,_,_,_,h,_=>by simp at h
 | p::P,w::vs,0,m,nd,h1,h2,hk=>by
  simp at h1 h2; subst h1; subst h2
  show bindC kindOf ((p,w)::P.zip vs) m p=_
  unfold bindC
  rw[zil λv hv=>(List.nodup_cons.mp nd).1 (List.of_mem_zip hv).1,if_neg hk]
  simp
 | p::P,w::vs,i+1,m,nd,h1,h2,hk=>by
  show bindC kindOf ((p,w)::P.zip vs) m x=_
  unfold bindC
  exact zim (i:=i) (List.nodup_cons.mp nd).2 (by simpa using h1) (by simpa using h2) hk
noncomputable def start(N:List Str)(vs:List V):St:=vs.map some++List.replicate (N.length - vs.length) none
noncomputable def cxOf(CX:CXT)(P:Program)(w:World)(K:W.Frag)(mg:Str->Option Value)(base:Heap)(N:List Str)(qual:Str)(scope:Scope)(f:Addr)(cd:Value)(A:Around)(outer:List Env)(s:Shared)(H:Hp)(E:XK):Cx where
 prog:=P
 w:=w
 K:=K
 mg:=mg
 base:=base
 A:=A.deeper (envOfC qual scope s.heap.objs.size f cd)
 N:=N
 s₀:=s
 H₀:=H
 env:=envOfC qual scope s.heap.objs.size f cd
 outer:=outer
 stack:=envOfC qual scope s.heap.objs.size f cd::outer
 ex:=[]
 calm:=true
 fn:=λ_=>true
 pn:=[]
 xe:=λe s'=>wpAny (model P w) (A.deeper (envOfC qual scope s.heap.objs.size f cd)) (leaving (envOfC qual scope s.heap.objs.size f cd) e) (λ_ s''=>CX outer H s E e s'') (λe' s''=>CX outer H s E e' s'') s'
theorem zjR{sc:Scope}{n:Nat}{x:Str}(h:sc.names.lookup x=some .cell):∃ c,(cellsFrom n sc.names []).lookup x=some c:=by
 have q:=W.cellsFrom_some sc.names n [] (.inl h)
 exact Option.isSome_iff_exists.mp q
theorem inv_start{CX:CXT}{P:Program}{w:World}{K:W.Frag}{mg:Str->Option Value}{base:Heap}{N ps:List Str}{qual:Str}{scope:Scope}{f:Addr}{cd:Value}{A:Around}{outer:List Env}{s s1:Shared}{H:Hp}{E:XK}{us:List Value}{vs:List V}
  (S:FnScope N ps scope) (hd:A.handled=none) (e0:Env0 P w K mg base A outer s H) (hl:vs.length=ps.length) (r:zaM vs us)
  (x:InCallC s s.heap.objs.size (bindL (envOfC qual scope s.heap.objs.size f cd).kindOf (ps.zip us) λ_=>none) (cellsFrom (s.heap.objs.size+1) scope.names []) (bindC (envOfC qual scope s.heap.objs.size f cd).kindOf (ps.zip us) λ_=>none) s1) :
  Inv (cxOf CX P w K mg base N qual scope f cd A outer s H E) [] (start N vs) H s1:=by
 have hpl:ps.length<=N.length:=by have:=congrArg List.length S.pre; rw[List.length_take]at this; lia
 obtain⟨h1,tk,rfl,hk⟩:=x.done
 have noA:∀ b:Addr,b∉(cxOf CX P w K mg base N qual scope f cd A outer s H E).ex:=λb z=>absurd (show b∈([]:List Addr)from z) (by simp)
 refine⟨⟨e0.mod,S.kind,rfl,rfl,nLr _,λy z c h1 h2=>?_,λy hy=>?_,λy c _ h=>?_,λ_=>hd,Around.frames_deeper e0.frames,.inr ⟨rfl,rfl⟩,λb z=>absurd z (noA b),e0.bs,e0.bsz,λb _ _=>noA b,λb z=>absurd z (noA b),e0.funs,e0.frf⟩,
  rfl,e0.bare,Un.kept hk,⟨_,x.toInCall.ns,λi y v h1 h2 h3=>?_⟩,λy c h=>⟨_,x.cell y c h⟩,e0.hok.fresh (Nat.le_refl _),λy c h=>?_,λp hp=>absurd (show p∈([]:List (Addr×Obj))from hp) (by simp),e0.hok.kept hk,?_⟩
 ·exact name_of_addr x.apart (PySem.mem_of_lookup h1) (PySem.mem_of_lookup h2)
 ·have hy:scope.names.lookup y=some .cell∨scope.names.lookup y=some .free:=hy
  rcases hy with hy | hy
  ·exact zjR hy
  ·exact absurd rfl (S.nofree _ (PySem.mem_of_lookup hy))
 ·exact Nat.le_of_lt (x.above y c (PySem.mem_of_lookup h))
 ·have hi:i < vs.length:=by
   unfold start at h2
   by_cases hi:i < vs.length
   ·exact hi
   ·rw[List.getElem?_append_right (by simpa using hi)]at h2
    rw[List.getElem?_replicate]at h2
    split at h2<;>cases h2
  have ha:vs[i]?=some v:=by
   unfold start at h2
   rw[List.getElem?_append_left (by simpa using hi),List.getElem?_map]at h2
   cases e:vs[i]? with
   | none=>rw[e]at h2; cases h2
   | some a=>rw[e]at h2; cases h2; rfl
  obtain⟨u,hu,rv⟩:=r.get ha
  have hp:ps[i]?=some y:=by
   rw[<- S.pre,List.getElem?_take_of_lt (by lia)]; exact h1
  have ndP:ps.Nodup:=by rw[<- S.pre]; exact S.nd.sublist (List.take_sublist _ _)
  refine⟨u,rv,?_⟩
  rcases S.par y (List.mem_of_getElem? hp)with k | k
  ·exact .inl ⟨k,zik ndP hp hu k⟩
  ·obtain⟨c,e⟩:=zjR (n:=s.heap.objs.size+1) k
   refine .inr ⟨.inl k,c,e,?_⟩
   have q:=x.cell y c e
   rw[zim ndP hp hu (by show scope.names.lookup y≠_; rw[k]; decide)]at q
   exact q
 ·exact e0.hok.fresh (Nat.le_of_lt (x.above y c (PySem.mem_of_lookup h)))
 ·unfold start
  show _=N.length
  rw[List.length_append,List.length_map,List.length_replicate]
  lia
theorem fn_of{CX:CXT}{P:Program}{w:World}{K:PySem.W.Frag}{mg:Str->Option Value}{base:Heap}{k:Nat}{f:Addr}{name qual:Str}{params:Arguments}{body:List Stmt}{scope:Scope}{dV kV doc pm cdv ct oc:Value}{an od:Option Addr}
  {osl:Array (Option Value)} {N ps:List Str} {sp:Sp} (lk:K.lookup f=some ⟨oc,od,.func (PySem.W.fnOf name qual params body scope dV kV doc pm an cdv ct),osl⟩) (hcd:PySem.W.codeIn K cdv qual=true) (S:FnScope N ps scope)
  (len:∀ vs H Q E,sp vs H Q E->vs.length=ps.length)
  (hbody:∀ (A:Around) (outer:List Env) (s:Shared) (H:Hp) (vs:List V) (Q:VK) (E:XK),Room k (A.deeper (envOfC qual scope s.heap.objs.size f cdv))->sp vs H Q E ->
   ∃ t,PSs (cxOf CX P w K mg base N qual scope f cdv A outer s H E) body t/\t { nx:=λ_ H'=>Q .non H',rt:=Q } (start N vs) H) :
  FnOk P w K mg base CX (k+1) f (PySem.W.fnOf name qual params body scope dV kV doc pm an cdv ct) ps sp:=by
 refine⟨len,λA outer s H args us vs Q E hr e0 hb r hsp=>?_⟩
 have hl:=len _ _ _ _ hsp
 have KX:K.In s.heap:=e0.mod.kin.keeps λb o e=>(e0.bs b o e).1
 have lim:s.heap.NoLimit:=e0.mod.nolimit.keeps λb o e=>(e0.bs b o e).1
 have hkind:∀ y∈ps.zip us,scope.names.lookup y.1=some .local∨(scope.names.lookup y.1=some .cell/\((cellsFrom (s.heap.objs.size+1) scope.names []).lookup y.1).isSome=true):=λhu hy=>by
  obtain⟨n,v⟩:=hu
  rcases S.par n (List.of_mem_zip hy).1 with q | q
  ·exact .inl q
  ·exact .inr ⟨q,PySem.W.cellsFrom_some _ _ _ (.inl q)⟩
 refine codeAny_call_function hr.depth (KX _ _ lk) rfl S.co S.gen rfl (PySem.W.codeRec_of KX hcd) (hb _ _ _ _ ?_)
 refine wpAny_newFunctionEnv_cells S.kind hkind λenv he s1 x=>?_
 subst he
 refine⟨lim.keeps x.toInCall.keep,codeAny_func ?_⟩
 obtain⟨t,ht,hq⟩:=hbody A outer s H vs Q E (hr.deeper _) hsp
 have I:Inv (cxOf CX P w K mg base N qual scope f cdv A outer s H E) [] (start N vs) H s1:=inv_start S hr.hd e0 hl r x
 refine wpAny_mono (ht [] s1 (start N vs) H _ I hq) (λfl s' hs=>?_) λe s' hs=>hs
 have fin:∀ {σ':St} {H':Hp} {v:V} {u:Value},Inv (cxOf CX P w K mg base N qual scope f cdv A outer s H E) [] σ' H' s'->zaK v u->Q v H'->CE outer P w H s Q u s' :=
  λ{σ' H' v u} J rv q=>⟨v,H',J.os,J.bare,J.base,J.hok,rv,q⟩
 cases fl with
 | ret u =>
  obtain⟨v,σ',H',J,rv,q⟩:=hs
  exact fin J rv q
 | next =>
  obtain⟨σ',H',J,q⟩:=hs
  exact fin (v:=V.non) (u:=Value.none) J rfl q
 | brk =>
  obtain⟨_,_,_,q⟩:=hs
  exact False.elim q
 | cont =>
  obtain⟨_,_,_,q⟩:=hs
  exact False.elim q
section
variable {X:Cx}{x:Str}{p pos:Pos}{e:Expr}{es:List Expr}{t:TA}{id T:String}{r:List V->Hp->VK->Prop}
noncomputable def tCB(r:List V->Hp->VK->Prop)(t:TA):TE:=λσ H Q=>t σ H λvs H1=>r vs H1 Q
theorem zg4(hc:zcV X (.builtin id) r)(hg:Gl X x)(hm:X.mg x=none)(hv:bootBuiltins x=some (.builtin id))(ha:PA X (e::es) t)(hn:x≠"__name__":=by decide) (hdb:(x==("__debug__":Str))=false:=by decide)
  (he:starEach (e::es) X.env=(false,eval e X.env)::starEach es X.env:=by rfl) (hpl:(backTo pos (starEach es X.env)).any (·.1)=false:=by rfl):PE X (.Call (.Name x p) (e::es) [] pos) (tCB r t):=by
 intro pins s σ H Q I h
 refine wpAny_Call_Name_kw (ze2 I hg hm hv ?_ hn hdb)
 exact PyProof.Rows.callWith_builtin1 (thn (ha pos pins s σ H _ I h) λus s1 hu=>(by obtain⟨vs,H1,I1,r1,q1⟩:=hu; exact hc pins s1 σ H1 vs us Q I1 r1 q1)) he hpl
theorem pe_callTy(hc:zcV X (.type T) r)(hg:Gl X x)(hm:X.mg x=none)(hv:bootBuiltins x=some (.type T))(ha:PA X (e::es) t)(hn:x≠"__name__":=by decide) (hdb:(x==("__debug__":Str))=false:=by decide)
  (he:starEach (e::es) X.env=(false,eval e X.env)::starEach es X.env:=by rfl) (hpl:(backTo pos (starEach es X.env)).any (·.1)=false:=by rfl):PE X (.Call (.Name x p) (e::es) [] pos) (tCB r t):=by
 intro pins s σ H Q I h
 refine wpAny_Call_Name_kw (ze2 I hg hm hv ?_ hn hdb)
 exact PyProof.Rows.callWith_type1 (thn (ha pos pins s σ H _ I h) λus s1 hu=>(by obtain⟨vs,H1,I1,r1,q1⟩:=hu; exact hc pins s1 σ H1 vs us Q I1 r1 q1)) he hpl
end
end L2
namespace HT
open PySem PyProof.Rows
section
open PySem.SeqAt
open PySem.AutoSeq1 (wpAny_loadPart')
open PySem.MeetsSeq PySem.MeetsSeq2 PySem.MeetsSeq3
end
section
variable {prog:Program}{w:World}{A:Around}{E:Value->Shared->Prop}{s:Shared}
noncomputable def sIx(n d:Nat):Option Int->Nat
 | none=>d
 | some v=>if v < 0 then (v+(n:Int)).toNat else min v.toNat n
theorem sIx_none(n d:Nat):sIx n d none=d:=rfl
theorem sIx_nat(n d k:Nat):sIx n d (some (k:Int))=min k n:=by
 show(if (k:Int) < 0 then ((k:Int)+(n:Int)).toNat else min (k:Int).toNat n)=min k n
 rw[if_neg (by lia),Int.toNat_natCast]
theorem sIx_le(n d:Nat)(hd:d<=n)(o:Option Int):sIx n d o<=n:=by
 cases o with
 | none=>exact hd
 | some v =>
  show(if v < 0 then (v+(n:Int)).toNat else min v.toNat n)<=n
  by_cases hv:v < 0
  ·rw[if_pos hv]; lia
  ·rw[if_neg hv]; exact Nat.min_le_right _ _
theorem clip_eq(v:Int)(n d:Nat):(if v < 0 then max (v+(n:Int)) 0 else min v (n:Int))=((sIx n d (some v):Nat):Int):=by
 show(if v < 0 then max (v+(n:Int)) 0 else min v (n:Int))=(((if v < 0 then (v+(n:Int)).toNat else min v.toNat n):Nat):Int)
 by_cases hv:v < 0
 ·simp only[if_pos hv]; lia
 ·simp only[if_neg hv]; lia
theorem adjust_gen(lo hi:Option Int)(n:Nat):Builtin.Slice.sliceAdjust lo hi 1 (n:Int)=(((sIx n 0 lo:Nat):Int),((sIx n n hi:Nat):Int)):=by
 have h1:¬ ((1:Int) < 0):=by lia
 unfold Builtin.Slice.sliceAdjust
 simp only[h1,if_false]
 refine Prod.ext ?_ ?_
 ·cases lo with
  | none=>rfl
  | some v=>exact clip_eq v n 0
 ·cases hi with
  | none=>rfl
  | some v=>exact clip_eq v n n
theorem places_gen(i j:Nat):Builtin.Slice.slicePlaces (i:Int) (j:Int) 1=j - i:=by
 unfold Builtin.Slice.slicePlaces
 have h1:(1:Int) > 0:=by lia
 simp only[h1,if_true,Int.ediv_one]
 split<;>lia
theorem zgt{v:Value}{o:Option Int}{Q:Option Int->Shared->Prop}(p:IsPart v o)(h:Q o s):wpAny (model prog w) A (Builtin.Slice.slicePartIndex v) Q E s:=by
 cases p with
 | none=>exact slicePart_none h
 | int i t=>exact slicePart_int h
theorem zdr{sl:Addr}{vl vu:Value}{lo hi:Option Int}{n:Nat}{Q:Int×Int×Nat->Shared->Prop}(hs:s.heap.IsSliceOf sl vl vu .none)(pl:IsPart vl lo)(pu:IsPart vu hi)
  (h:Q (((sIx n 0 lo:Nat):Int),1,sIx n n hi - sIx n 0 lo) s):wpAny (model prog w) A (Builtin.Slice.sliceApplied (.ref sl) (pure (n:Int))) Q E s:=by
 obtain⟨os,hos,hcs,hds⟩:=id hs
 unfold Builtin.Slice.sliceApplied Builtin.Slice.sliceFields
 refine wB (wB (wpAny_field hos hds (x:=vl) rfl (wB (wpAny_field hos hds (x:=vu) rfl (wB (wpAny_field hos hds (x:=.none) rfl (wQ ?_)))))))
 refine wB (slicePart_none ?_)
 show wpAny _ _ (if ((1:Int)==0)=true then _ else _) _ _ s
 rw[if_neg (by decide)]
 refine wB (zgt pl (wB (zgt pu (wB (wQ ?_)))))
 show wpAny _ _ (match Builtin.Slice.sliceAdjust lo hi 1 (n:Int)with | (lo,hi)=>pure (lo,(1:Int),Builtin.Slice.slicePlaces lo hi 1)) _ _ s
 rw[adjust_gen lo hi n]
 show wpAny _ _ (pure (((sIx n 0 lo:Nat):Int),(1:Int),Builtin.Slice.slicePlaces ((sIx n 0 lo:Nat):Int) ((sIx n n hi:Nat):Int) 1)) _ _ s
 rw[places_gen]
 exact wQ h
theorem pick_gen(xs:Array Value)(i k:Nat):((List.range k).filterMap λ(m:Nat)=>xs[((i:Int)+(m:Int) * 1).toNat]?).toArray=((xs.toList.drop i).take k).toArray:=by
 have e:(λ(m:Nat)=>xs[((i:Int)+(m:Int) * 1).toNat]?)=λm=>xs[i+m]?:=by
  funext m
  have:((i:Int)+(m:Int) * 1).toNat=i+m:=by lia
  rw[this]
 rw[e]
 have:=pick_run xs i k
 rw[List.filterMap_map]at this
 have e2:((λx=>xs[x]?)∘λx=>i+x)=λm=>xs[i+m]?:=rfl
 rw[e2]at this
 rw[this]
theorem getItem_tuple_cut{t sl:Addr}{items:Array Value}{vl vu:Value}{lo hi:Option Int}{Q:Value->Shared->Prop}(ht:IsTup s.heap t items)(hs:s.heap.IsSliceOf sl vl vu .none)(pl:IsPart vl lo)(pu:IsPart vu hi)
  (hw:¬ (sIx items.size 0 lo=0/\sIx items.size items.size hi=items.size))
  (h:Q (.ref s.heap.objs.size) { s with heap:=s.heap.push { cls:=.type "tuple",data:=.seq ((items.toList.drop (sIx items.size 0 lo)).take (sIx items.size items.size hi - sIx items.size 0 lo)).toArray } })
  (hsz:items.size<=sizeLine):wpAny (model prog w) A (getItem (.ref t) (.ref sl)) Q E s:=by
 have htake:sizeOk (.seq ((items.toList.drop (sIx items.size 0 lo)).take (sIx items.size items.size hi - sIx items.size 0 lo)).toArray):=by
  show((items.toList.drop (sIx items.size 0 lo)).take (sIx items.size items.size hi - sIx items.size 0 lo)).toArray.size<=sizeLine
  rw[List.size_toArray,List.length_take,List.length_drop,Array.length_toList]
  lia
 have hj:sIx items.size items.size hi<=items.size:=sIx_le _ _ (nLr _) hi
 obtain⟨os,hos,hcs,hds⟩:=id hs
 have hTs:s.TypeIs (.ref sl) "slice":=⟨os,hos,hcs⟩
 unfold getItem
 try with_reducible refine wpAny_holding ?_
 first | refine wB (wQ ?_) | skip
 refine wB (wpAny_sequenceKey ht.typeIs (by decide) ?_)
 refine wpAny_bind (wpAny_callSpecial?_slot (name:=Str.ofString "__getitem__") ht.typeIs PyProof.Rows.slot_tuple_getitem
  (wpAny_call_entry PyProof.Rows.slot_tuple_getitem ht.typeIs entry_tuple_getitem ?_ (args_tuple_getitem _ _)))
 show wpAny _ _ (Builtin.Tuple.tupleItemsOf (.ref t) >>= _) _ _ s
 refine wB (tupleItemsOf_ ht ?_)
 refine wB (wpAny_typeOf hTs ?_)
 rw[if_pos (by decide)]
 refine wB (zdr hs pl pu ?_)
 have hno:¬ ((((sIx items.size 0 lo:Nat):Int)==0&&(1:Int)==1&&(sIx items.size items.size hi - sIx items.size 0 lo)==items.size)=true):=by
  intro q
  rw[Bool.and_eq_true,Bool.and_eq_true]at q
  have q1:((sIx items.size 0 lo:Nat):Int)=0:=eq_of_beq q.1.1
  have q2:sIx items.size items.size hi - sIx items.size 0 lo=items.size:=eq_of_beq q.2
  exact hw ⟨by lia,by lia⟩
 show wpAny _ _ (if (((sIx items.size 0 lo:Nat):Int)==0&&(1:Int)==1&&(sIx items.size items.size hi - sIx items.size 0 lo)==items.size)=true then _ else _) _ _ s
 rw[if_neg hno,pick_gen]
 first
  | exact wB (m:=Builtin.Tuple.tupleExact _) (wpAny_newObj_type (wQ ⟨_,rfl,wQ h⟩) htake)
  | exact wB (m:=Builtin.Tuple.tupleExact _) (wpAny_newObj_type (wB (wQ (wQ ⟨_,rfl,wQ h⟩))) htake)
  | exact wB (wB (m:=Builtin.Tuple.tupleExact _) (wpAny_newObj_type (wQ (wQ ⟨_,rfl,wQ h⟩)) htake))
  | exact wB (wB (m:=Builtin.Tuple.tupleExact _) (wpAny_newObj_type (wQ ⟨_,rfl,wQ h⟩) htake))
end
end HT
namespace L2
open PySem PySem.Spec PyProof.Rows
noncomputable abbrev TO:=St->Hp->(Option Int->Hp->Prop)->Prop
noncomputable def PO(X:Cx)(e:Option Expr)(t:TO):Prop :=
 ∀ (pins:List (Addr×Obj)) (s:Shared) (σ:St) (H:Hp) (Q:Option Int->Hp->Prop),Inv X pins σ H s->t σ H Q ->
  wpAny (model X.prog X.w) X.A (evalPart e X.env) (λu s'=>∃ o H',Inv X pins σ H' s'/\IsPart u o/\Q o H') X.xe s
noncomputable def tPart(t:TE):TO:=λσ H Q=>t σ H λx H1=>∃ i,x=.int i/\Q (some i) H1
section
variable {X:Cx}{e:Expr}{te:TE}{lo hi:Option Expr}{tl th:TO}{pos p2:Pos}
theorem po_some(h:PE X e te):PO X (some e) (tPart te):=by
 intro pins s σ H Q I hw
 rw[evalPart_some]
 refine thn (h pins s σ H _ I hw) λu s1 ⟨x,H1,I1,r1,q1⟩=>?_
 obtain⟨i,rfl,q⟩:=q1
 obtain⟨t,rfl⟩:=r1
 exact⟨some i,H1,I1,.int i t,q⟩
noncomputable def SlR(X:Cx)(r:V->Option Int->Option Int->Hp->VK->Prop):Prop :=
 ∀ (pins:List (Addr×Obj)) (s:Shared) (σ:St) (H:Hp) (x:V) (v vl vu:Value) (lo hi:Option Int) (sl:Addr) (Q:VK),Inv X pins σ H s->zaK x v->s.heap.IsSliceOf sl vl vu .none->IsPart vl lo->IsPart vu hi->r x lo hi H Q ->
  ∃ T id,typeLookup (.type T) "__getitem__"=pure (some (.builtin id))/\s.TypeIs v T/\wpAny (model X.prog X.w) X.A (getItem v (.ref sl)) (EP X pins σ Q) X.xe s
noncomputable def tSl(r:V->Option Int->Option Int->Hp->VK->Prop)(te:TE)(tl th:TO):TE:=λσ H Q=>te σ H λx H1=>tl σ H1 λl H2=>th σ H2 λu H3=>r x l u H3 Q
theorem pe_slice{r:V->Option Int->Option Int->Hp->VK->Prop}(hr:SlR X r)(he:PE X e te)(hl:PO X lo tl)(hu:PO X hi th):PE X (.Subscript e (.Slice lo hi none p2) pos) (tSl r te tl th):=by
 intro pins s σ H Q I h
 refine Subscript_ (thn (he pins s σ H _ I h) λv s1 ⟨x,H1,I1,r1,q1⟩=>?_)
 refine wpAny_Slice (thn (hl pins s1 σ H1 _ I1 q1) λvl s2 ⟨l,H2,I2,pl,q2⟩=>thn (hu pins s2 σ H2 _ I2 q2) λvu s3 ⟨u,H3,I3,pu,q3⟩=>?_)
 rw[evalPart_none]
 refine wQ ?_
 have I4:Inv X pins σ H3 { s3 with heap:=s3.heap.push { cls:=.type "slice",data:=.fields #[vl,vu,.none] } }:=I3.kept (t':=s3.toks) λb ob q=>Heap.get?_push_of_some _ q
 obtain⟨T,id,hT,ht,hg⟩:=hr pins { s3 with heap:=s3.heap.push { cls:=.type "slice",data:=.fields #[vl,vu,.none] } } σ H3 x v vl vu l u s3.heap.objs.size Q I4 r1 (Heap.IsSliceOf.new ..) pl pu q3
 show wpAny (model X.prog X.w) X.A (subscriptTail e (.Slice lo hi none p2) v (.ref s3.heap.objs.size)) (EP X pins σ Q) X.xe { s3 with heap:=s3.heap.push { cls:=.type "slice",data:=.fields #[vl,vu,.none] } }
 exact tail_any (ops:=[.ref s3.heap.objs.size,v]) ht hT hg (by with_unfolding_all rfl)
noncomputable def cutV(xs:List V)(lo hi:Option Int):List V:=(xs.drop (HT.sIx xs.length 0 lo)).take (HT.sIx xs.length xs.length hi - HT.sIx xs.length 0 lo)
theorem zfT(xs:List V)(lo hi:Option Int):(cutV xs lo hi).length<=xs.length:=by
 unfold cutV
 rw[List.length_take,List.length_drop]
 lia
noncomputable def rSlT(K:W.Frag):V->Option Int->Option Int->Hp->VK->Prop:=λx lo hi H Q=>∃ a xs,x=.ref a/\SqT K H a xs /\
 ¬ (HT.sIx xs.length 0 lo=0/\HT.sIx xs.length xs.length hi=xs.length)/\∀ p,H p=none->Q (.ref p) (upd H p (.tup (cutV xs lo hi)))
theorem sl_tup:SlR X (rSlT X.K):=by
 intro pins s σ H x v vl vu lo hi sl Q I rx hs pl pu h
 obtain⟨a,xs,rfl,hx,hw,q⟩:=h
 cases rx
 obtain⟨its,r,ht,hz⟩:=I.tuple hx
 have hlen:its.toArray.size=xs.length:=by rw[List.size_toArray]; exact r.length.symm
 refine⟨"tuple",_,PyProof.Rows.slot_tuple_getitem.lookup,ht.typeIs,?_⟩
 refine HT.getItem_tuple_cut ht hs pl pu (by rw[hlen]; exact hw) ?_ (by rw[hlen]; exact hz)
 rw[hlen]
 refine⟨.ref s.heap.objs.size,_,I.laid (t':=s.toks) (o:=.tup (cutV xs lo hi)) (λb ob q=>hPs _ q) (nLr _) ?_,rfl,q _ (I.hok.fresh (nLr _))⟩
 exact⟨Nat.le_trans (zfT xs lo hi) hz,_,(r.drop (HT.sIx xs.length 0 lo)).take (HT.sIx xs.length xs.length hi - HT.sIx xs.length 0 lo),IsTup.new _ _⟩
end
noncomputable def ixN(n:Nat)(i:Int):Option Nat:=if 0<=i then (if i < n then some i.toNat else none)else if -(n:Int)<=i then some (i+n).toNat else none
noncomputable def atI{α:Type}(xs:List α)(i:Int):Option α:=(ixN xs.length i).bind λj=>xs[j]?
theorem ixN_seq{n:Nat}{i:Int}{j:Nat}(h:ixN n i=some j):seqIndex? i n=some j/\j < n/\-(n:Int)<=i/\i < n:=by
 unfold ixN at h
 by_cases h0:0<=i
 ·rw[if_pos h0]at h
  by_cases h1:i < n
  ·rw[if_pos h1]at h
   have e:i.toNat=j:=Option.some.inj h
   exact⟨by rw[seqIndex_of h0 h1,e],by lia,by lia,h1⟩
  ·rw[if_neg h1]at h; cases h
 ·rw[if_neg h0]at h
  by_cases h1:-(n:Int)<=i
  ·rw[if_pos h1]at h
   have e:(i+n).toNat=j:=Option.some.inj h
   exact⟨by rw[seqIndex_neg (by lia) h1,e],by lia,h1,by lia⟩
  ·rw[if_neg h1]at h; cases h
theorem atI_get{α:Type}{xs:List α}{i:Int}{v:α}(h:atI xs i=some v):∃ j,seqIndex? i xs.length=some j/\xs[j]?=some v/\j < xs.length/\-(xs.length:Int)<=i/\i < xs.length:=by
 unfold atI at h
 cases e:ixN xs.length i with
 | none=>rw[e]at h; cases h
 | some j =>
  rw[e]at h
  obtain⟨h1,h2,h3,h4⟩:=ixN_seq e
  exact⟨j,h1,h,h2,h3,h4⟩
theorem zcT{α:Type}{xs:List α}{j:Nat}{v:α}(h:xs[j]?=some v):atI xs (j:Int)=some v:=by
 have hj:j < xs.length:=(List.getElem?_eq_some_iff.mp h).1
 have e:ixN xs.length (j:Int)=some j:=by
  unfold ixN
  rw[if_pos (by lia),if_pos (by lia)]; simp
 unfold atI; rw[e]; exact h
noncomputable def PlainIx(b:Expr):Prop:=∀ o i,subscripted b false o i=operate [o,i] (getItem o i)
noncomputable def IxR(X:Cx)(r:R2):Prop :=
 ∀ (value slice:Expr) (pins:List (Addr×Obj)) (s:Shared) (σ:St) (H:Hp) (x y:V) (v u:Value) (Q:VK),Inv X pins σ H s->zaK x v->zaK y u->r x y H Q ->
  subscripted slice false v u=operate [v,u] (getItem v u)->wpAny (model X.prog X.w) X.A (subscriptTail value slice v u) (EP X pins σ Q) X.xe s
noncomputable def MtR(X:Cx)(id:String)(r:V->List V->Hp->VK->Prop):Prop :=
 ∀ (pins:List (Addr×Obj)) (s:Shared) (σ:St) (H:Hp) (x:V) (xs:List V) (v:Value) (us:List Value) (Q:VK),Inv X pins σ H s->zaK x v->zaM xs us->r x xs H Q ->
  wpAny (model X.prog X.w) X.A (call (.builtin id) (v::us)) (EP X pins σ Q) X.xe s
section
variable {X:Cx}{a b:Expr}{ta tb:TE}{pos:Pos}
theorem IxR.or{r r':R2}(h:IxR X r)(h':IxR X r'):IxR X (λx y H Q=>r x y H Q∨r' x y H Q):=by
 intro value slice pins s σ H x y v u Q I rx ry q hs
 rcases q with q | q
 ·exact h value slice pins s σ H x y v u Q I rx ry q hs
 ·exact h' value slice pins s σ H x y v u Q I rx ry q hs
theorem pe_ix{r:R2}(hr:IxR X r)(ha:PE X a ta)(hb:PE X b tb)(hs:PlainIx b):PE X (.Subscript a b pos) (tOp r ta tb):=by
 intro pins s σ H Q I h
 exact Subscript_ (binT ha hb I h λv u s2 x y H2 I2 rx ry q=>hr a b pins s2 σ H2 x y v u Q I2 rx ry q (hs _ _))
noncomputable def rIxL(K:W.Frag):R2:=λx y H Q=>∃ p xs i v,x=.ref p/\y=.int i/\SqL K H p xs/\atI xs i=some v/\Q v H
noncomputable def rIxT(K:W.Frag):R2:=λx y H Q=>∃ p xs i v,x=.ref p/\y=.int i/\SqT K H p xs/\atI xs i=some v/\Q v H
theorem ix_list:IxR X (rIxL X.K):=by
 intro value slice pins s σ H x y v u Q I rx ry h hs
 obtain⟨p,xs,i,z,rfl,rfl,hq,he,q⟩:=h
 cases rx
 obtain⟨t,rfl⟩:=ry
 obtain⟨its,r,pl,hz⟩:=I.list hq
 obtain⟨j,h1,h2,h3,h4,h5⟩:=atI_get he
 obtain⟨w,ew,rw'⟩:=r.get h2
 have hl:=r.length
 have hn:=zh3
 have fin:EP X pins σ Q w s:=⟨z,H,I,rw',q⟩
 by_cases h0:0<=i
 ·have hj:i.toNat=j:=by
   rw[seqIndex_of h0 h5]at h1
   exact Option.some.inj h1
  exact item_listR pl.isList h0 (by lia) (by rw[hj]; simpa using ew) fin hs
 ·have hj:(i+(its.toArray.size:Int)).toNat=j:=by
   rw[seqIndex_neg (by lia) h4]at h1
   rw[List.size_toArray,<- hl]
   exact Option.some.inj h1
  exact subscriptTail_builtinR (x:=w) pl.isList.typeIs slot_list_getitem.lookup
   (wpAny_getItem_list_neg (Q:=λr s'=>r=w/\EP X pins σ Q r s') pl.isList (by lia) (by rw[List.size_toArray]<;>lia) (by lia) (by rw[hj]; simpa using ew) ⟨rfl,fin⟩) hs
theorem ix_tup:IxR X (rIxT X.K):=by
 intro value slice pins s σ H x y v u Q I rx ry h hs
 obtain⟨p,xs,i,z,rfl,rfl,hq,he,q⟩:=h
 cases rx
 obtain⟨t,rfl⟩:=ry
 obtain⟨its,r,pl,hz⟩:=I.tuple hq
 obtain⟨j,h1,h2,h3,h4,h5⟩:=atI_get he
 obtain⟨w,ew,rw'⟩:=r.get h2
 have hl:=r.length
 have hn:=zh3
 have fin:EP X pins σ Q w s:=⟨z,H,I,rw',q⟩
 exact subscriptTail_builtinR (x:=w) pl.typeIs slot_tuple_getitem.lookup
  (getItem_tuple (j:=j) (Q:=λr s'=>r=w/\EP X pins σ Q r s') pl (by lia) (by lia) (by rw[List.size_toArray,<- hl]; exact h1) (by simpa using ew) ⟨rfl,fin⟩) hs
theorem mapSeq_set(its:List Value)(n j:Nat)(u:Value):Obj.mapSeq (·.setIfInBounds j u) { cls:=.type "list",data:=.seq its.toArray n }={ cls:=.type "list",data:=.seq (its.set j u).toArray n }:=by
 simp[Obj.mapSeq]
theorem Inv.lst{pins:List (Addr×Obj)}{σ:St}{H:Hp}{s:Shared}{p:Addr}{xs:List V}(I:Inv X pins σ H s)(h:H p=some (.lst xs)) :
  ∃ (its:List Value) (n:Nat),zaM xs its/\s.heap.get? p=some { cls:=.type "list",data:=.seq its.toArray n }/\xs.length<=sizeLine:=by
 obtain⟨z,its,n,r,e⟩:=I.hok p _ h
 exact⟨its,n,r,e,z⟩
theorem Inv.lstUpd{pins:List (Addr×Obj)}{σ:St}{H:Hp}{s:Shared}{p:Addr}{xs ys:List V}{its its':List Value}{n n':Nat}{f:Obj->Obj}(I:Inv X pins σ H s)(h:H p=some (.lst xs))
  (ho:s.heap.get? p=some { cls:=.type "list",data:=.seq its.toArray n }) (hf:f { cls:=.type "list",data:=.seq its.toArray n }={ cls:=.type "list",data:=.seq its'.toArray n' }) (r:zaM ys its') (hz:ys.length<=sizeLine) (t:Nat) :
  Inv X pins σ (upd H p (.lst ys)) { s with heap:=s.heap.update p f,toks:=t }:=by
 have e:(s.heap.update p f).get? p=some { cls:=.type "list",data:=.seq its'.toArray n' }:=by
  rw[Heap.get?_update_self f ho (by rw[hf]<;>rfl),hf]
 refine I.write (x:=p) (e:=p) (by rw[h]; trivial) (.inl rfl) (λb u hb q=>(Heap.get?_update_other _ _ (Ne.symm hb)).trans q) ⟨_,e⟩ ?_
 exact⟨hz,its',n',r,e⟩
noncomputable def rSetL:V->V->V->Hp->(Hp->Prop)->Prop:=λo i v H Q=>∃ p xs k j,o=.ref p/\i=.int k/\H p=some (.lst xs)/\ixN xs.length k=some j/\Q (upd H p (.lst (xs.set j v)))
theorem set_list:PSet X rSetL:=by
 intro pins s σ H o i v ov iv u Q I ro ri rv h
 obtain⟨p,xs,k,j,rfl,rfl,hp,hj,q⟩:=h
 cases ro
 obtain⟨t,rfl⟩:=ri
 obtain⟨its,n,r,ho,hz⟩:=I.lst hp
 obtain⟨h1,h2,h3,h4⟩:=ixN_seq hj
 have hl:=r.length
 have hn:=zh3
 have I':Inv X pins σ (upd H p (.lst (xs.set j v))) { s with heap:=s.heap.update p (Obj.mapSeq (·.setIfInBounds j u)) } :=
  I.lstUpd hp ho (mapSeq_set its n j u) (r.set rv j) (by rw[List.length_set]; exact hz) s.toks
 by_cases h0:0<=k
 ·have hk:k.toNat=j:=by
   rw[seqIndex_of h0 h4]at h1
   exact Option.some.inj h1
  exact W.ki_setAt ho h0 (by lia) (by rw[List.size_toArray,<- hl]; exact h4) (by rw[hk]; exact⟨_,I',q⟩)
 ·have hk:(k+(its.toArray.size:Int)).toNat=j:=by
   rw[seqIndex_neg (by lia) h3]at h1
   rw[List.size_toArray,<- hl]
   exact Option.some.inj h1
  exact W.ki_setBack ho (by lia) (by rw[List.size_toArray,<- hl]; exact h3) (by lia) (by rw[hk]; exact⟨_,I',q⟩)
theorem zhI(lo hi:Option Int)(n:Nat):(sliceBounds lo hi none n).1=((HT.sIx n 0 lo:Nat):Int)/\(sliceBounds lo hi none n).2.1=((HT.sIx n n hi:Nat):Int)/\(sliceBounds lo hi none n).2.2=1:=by
 refine⟨?_,?_,rfl⟩
 ·cases lo with
  | none=>simp[sliceBounds,HT.sIx]
  | some i =>
   simp only[sliceBounds,HT.sIx,Option.getD_none,show(1:Int) > 0 by decide,if_true]
   by_cases h:i < 0
   ·simp only[h,if_true]<;>lia
   ·simp only[h,if_false]<;>lia
 ·cases hi with
  | none=>simp[sliceBounds,HT.sIx]
  | some i =>
   simp only[sliceBounds,HT.sIx,Option.getD_none,show(1:Int) > 0 by decide,if_true]
   by_cases h:i < 0
   ·simp only[h,if_true]<;>lia
   ·simp only[h,if_false]<;>lia
theorem zgS(its:List Value)(lo hi:Option Int):slicePick its.toArray lo hi none=((its.drop (HT.sIx its.length 0 lo)).take (HT.sIx its.length its.length hi - HT.sIx its.length 0 lo)).toArray:=by
 obtain⟨h1,h2,h3⟩:=zhI lo hi its.toArray.size
 unfold slicePick
 rw[h1,h2,h3]
 simp only[sliceRange_one,pick_run,List.size_toArray]<;>rfl
noncomputable def rSlL(K:W.Frag):V->Option Int->Option Int->Hp->VK->Prop:=λx lo hi H Q=>∃ a xs,x=.ref a/\SqL K H a xs/\∀ p,H p=none->Q (.ref p) (upd H p (.lst (cutV xs lo hi)))
theorem sl_list:SlR X (rSlL X.K):=by
 intro pins s σ H x v vl vu lo hi sl Q I rx hs pl pu h
 obtain⟨a,xs,rfl,hx,q⟩:=h
 cases rx
 obtain⟨its,r,ht,hz⟩:=I.list hx
 have hlen:=r.length
 refine⟨"list",_,slot_list_getitem.lookup,ht.isList.typeIs,?_⟩
 refine wpAny_getItem_list_slice ht.isList hs pl pu .none (by simp) ?_ (by rw[List.size_toArray]<;>lia)
 rw[zgS,<- hlen]
 refine⟨.ref s.heap.objs.size,_,I.laid (t':=s.toks) (o:=.lst (cutV xs lo hi)) (λb ob q=>hPs _ q) (nLr _) ?_,rfl,q _ (I.hok.fresh (nLr _))⟩
 exact⟨Nat.le_trans (zfT xs lo hi) hz,_,0,(r.drop (HT.sIx xs.length 0 lo)).take (HT.sIx xs.length xs.length hi - HT.sIx xs.length 0 lo),hPz _ rfl⟩
theorem zii:zcV X (.builtin "len") (λxs H Q=>∃ p ys,xs=[.ref p]/\(SqL X.K H p ys∨SqT X.K H p ys)/\Q (.int ys.length) H):=by
 intro pins s σ H xs us Q I r h
 obtain⟨p,ys,rfl,hq,q⟩:=h
 obtain⟨u,rfl,rx⟩:=vals1 r
 cases rx
 have hn:=zh3
 rcases hq with hq | hq
 ·obtain⟨its,r',pl,hz⟩:=I.list hq
  have hlen:=r'.length
  exact Calls.call_len_list pl.isList (by simp only[List.size_toArray]<;>lia) ⟨.int ys.length,H,I.tok _,⟨s.toks+1,by rw[List.size_toArray,hlen]⟩,q⟩
 ·obtain⟨its,r',pl,hz⟩:=I.tuple hq
  have hlen:=r'.length
  exact len_tuple pl (by simp only[List.size_toArray]<;>lia) ⟨.int ys.length,H,I.tok _,⟨s.toks+1,by rw[List.size_toArray,hlen]⟩,q⟩
theorem zcV.or{f:Value}{r r':List V->Hp->VK->Prop}(h:zcV X f r)(h':zcV X f r'):zcV X f (λxs H Q=>r xs H Q∨r' xs H Q):=by
 intro pins s σ H xs us Q I rs q
 rcases q with q | q
 ·exact h pins s σ H xs us Q I rs q
 ·exact h' pins s σ H xs us Q I rs q
theorem zhr:zcV X (.type "tuple") (λxs H Q=>∃ p ys,xs=[.ref p]/\((SqL X.K H p ys/\∀ l,H l=none->Q (.ref l) (upd H l (.tup ys)))∨(SqT X.K H p ys/\Q (.ref p) H))):=by
 intro pins s σ H xs us Q I r h
 obtain⟨p,ys,rfl,h⟩:=h
 obtain⟨u,rfl,rx⟩:=vals1 r
 cases rx
 rcases h with ⟨hq,q⟩ | ⟨hq,q⟩
 ·obtain⟨its,r',pl,hz⟩:=I.list hq
  have hlen:=r'.length
  refine call_tuple_list pl.isList (λh' kp=>?_) (by simp only[List.size_toArray]<;>lia)
  have I1:Inv X pins σ H { s with heap:=h' }:=I.kept (t':=s.toks) kp
  have I2:Inv X pins σ (upd H h'.objs.size (.tup ys)) { s with heap:=h'.push { cls:=.type "tuple",data:=.seq its.toArray } } :=
   I1.laid (t':=s.toks) (λb o e=>hPs _ e) (nLr _) (show zbz X.prog X.w _ _ _ (.tup ys)from ⟨hz,its,r',IsTup.new _ _⟩)
  exact⟨.ref h'.objs.size,_,I2,rfl,q _ (I1.hok.fresh (nLr _))⟩
 ·obtain⟨its,r',pl,hz⟩:=I.tuple hq
  exact call_tuple_same pl ⟨.ref p,H,I,rfl,q⟩
noncomputable def tyV(K:W.Frag)(T:String)(x:V)(H:Hp):Prop:=match x with
 | .str _=>T="str"
 | .int _=>T="int"
 | .ref p=>(T="list"/\∃ xs,SqL K H p xs)∨(T="tuple"/\∃ o,K.lookup p=some o/\o.cls=.type "tuple"/\o.dict=none) ∨
   (T="dict"/\((∃ kvs,H p=some (.dK kvs))∨∃ kvs,H p=some (.dT kvs)))∨(T="set"/\∃ S n,H p=some (.set S n))
 | _=>False
theorem tyV_is{pins:List (Addr×Obj)}{σ:St}{H:Hp}{s:Shared}{T:String}{x:V}{v:Value}(I:Inv X pins σ H s)(r:zaK x v)(ty:tyV X.K T x H) :
  s.TypeIs v T/\∀ a,v=.ref a->∃ ob,s.heap.get? a=some ob/\ob.dict=none:=by
 cases x with
 | str z =>
  obtain⟨t,rfl⟩:=r
  cases (show T="str" from ty)
  exact⟨typeIs_str s z t,λ_ e=>nomatch e⟩
 | int i =>
  obtain⟨t,rfl⟩:=r
  cases (show T="int" from ty)
  exact⟨typeIs_int s i t,λ_ e=>nomatch e⟩
 | ref p =>
  cases r
  rcases ty with ⟨rfl,xs,hq⟩ | ⟨rfl,o,hk,hc,hd⟩ | ⟨rfl,hk⟩ | ⟨rfl,S,n,hk⟩
  ·obtain⟨its,_,pl,_⟩:=I.list hq
   refine⟨pl.isList.typeIs,λa e=>?_⟩
   cases e
   obtain⟨o,n,e,c,hd,_⟩:=pl
   exact⟨o,e,hd⟩
  ·refine⟨⟨o,I.kIn p o hk,hc⟩,λa e=>?_⟩
   cases e
   exact⟨o,I.kIn _ o hk,hd⟩
  ·have z:∃ o,s.heap.get? p=some o/\o.ExactDict:=by
    rcases hk with ⟨kvs,hk⟩ | ⟨kvs,hk⟩
    ·obtain⟨_,_,_,_,o,_,_,e,ex,_⟩:=I.hok p _ hk
     exact⟨o,e,ex⟩
    ·obtain⟨_,_,_,_,o,_,_,e,ex,_⟩:=I.hok p _ hk
     exact⟨o,e,ex⟩
   obtain⟨o,e,ex⟩:=z
   refine⟨⟨o,e,ex.1⟩,λa e2=>?_⟩
   cases e2
   exact⟨o,e,ex.2.1⟩
  ·obtain⟨o,_,_,_,e,ex,_⟩:=I.hok p _ hk
   refine⟨⟨o,e,ex.1⟩,λa e2=>?_⟩
   cases e2
   exact⟨o,e,ex.2.1⟩
 | _=>exact False.elim ty
noncomputable def tBM(K:W.Frag)(T:String)(r:V->List V->Hp->VK->Prop)(to:TE)(t:TA):TE:=λσ H Q=>to σ H λx H1=>tyV K T x H1/\t σ H1 λxs H2=>r x xs H2 Q
variable {o e:Expr}{es:List Expr}{to:TE}{t:TA}{name:Str}{apos cpos:Pos}{T id:String}{r:V->List V->Hp->VK->Prop}
theorem pe_bm(pa:PlainAttrs T)(slot:Slot T name id)(hty:typeOf (.builtin id)=pure (.type "method_descriptor")) (hm:MtR X id r) (ho:PE X o to) (ha:PA X (e::es) t)
  (hbase:attributeBase o name X.env (eval o X.env)=eval o X.env:=by rfl)
  (hfew:((backTo cpos (starEach (e::es) X.env)).all (λx=>!x.1)&&(backToKw cpos (keywordEach [] X.env)).all (λx=>x.1.isSome)
   && decide ((e::es).length+([]:List Keyword).length+(if ([]:List Keyword).isEmpty then 0 else 1) < 30))=true:=by rfl)
  (hline:(apos.endLine==cpos.line)=true:=by rfl) (hs:starEach (e::es) X.env=(false,eval e X.env)::starEach es X.env:=by rfl) (hplain:(backTo cpos (starEach es X.env)).any (·.1)=false:=by rfl) :
  PE X (.Call (.Attribute o name apos) (e::es) [] cpos) (tBM X.K T r to t):=by
 intro pins s σ H Q I h
 refine wpAny_Call_method_late hbase hfew hline rfl (thn (ho pins s σ H _ I h) λv s1 ⟨x,H1,I1,r1,ty,q1⟩=>?_)
 obtain⟨h1,h2⟩:=tyV_is I1 r1 ty
 refine⟨T,id,pa,slot,hty,h1,h2,?_⟩
 have hA:=ha cpos pins s1 σ H1 _ I1 q1
 rw[hs]at hA ⊢
 refine Calls.callWith_builtin (by show(false||(backTo cpos (starEach es X.env)).any (·.1))=false; rw[hplain]<;>rfl) (Calls.evalArgs_plain ?_)
 exact thn hA λus s2 hu=>(by obtain⟨vs,H2,I2,r2,q2⟩:=hu; exact hm pins s2 σ H2 x vs v us Q I2 r1 r2 q2)
end
noncomputable def MtM(X:Cx)(id:String)(r:V->List V->Hp->VK->Prop):Prop :=
 ∀ (pins:List (Addr×Obj)) (s:Shared) (σ:St) (H:Hp) (x:V) (xs:List V) (v:Value) (us:List Value) (Q:VK),Inv X pins σ H s->zaK x v->zaM xs us->r x xs H Q ->
  wpAny (model X.prog X.w) X.A (call (.builtin id) (v::us)) (EP X pins σ Q) X.xe s
theorem zaM.one:∀ {x:V} {us:List Value},zaM [x] us->∃ u,us=[u]/\zaK x u
 | _,_,.cons r .nil=>⟨_,rfl,r⟩
section
variable {X:Cx}{pins:List (Addr×Obj)}{σ:St}{H:Hp}{s:Shared}{l b:Addr}{xs ys zs:List V}
theorem Inv.lset{its its':List Value}{n:Nat}{f:Array Value->Array Value}{t':Nat}(I:Inv X pins σ H s)(hH:H l=some (.lst xs))
  (e:s.heap.get? l=some { cls:=.type "list",data:=.seq its.toArray n }) (hf:f its.toArray=its'.toArray) (hv:zaM ys its') (hz:ys.length<=sizeLine) :
  Inv X pins σ (upd H l (.lst ys)) { s with heap:=s.heap.update l (Obj.mapSeq f),toks:=t' }:=by
 have q:=PySem.IsL.update e f
 rw[hf]at q
 refine I.write (x:=l) (e:=l) (by rw[hH]; exact trivial) (.inl rfl) (λb' u hb hu=>(Heap.get?_update_other s.heap (Obj.mapSeq f) (Ne.symm hb)).trans hu) ⟨_,q⟩ ?_
 exact⟨hz,its',_,hv,q⟩
theorem Inv.lstM(I:Inv X pins σ H s)(hH:H l=some (.lst xs)):xs.length<=sizeLine/\∃ (its:List Value) (n:Nat),zaM xs its/\xs.length=its.length/\s.heap.get? l=some { cls:=.type "list",data:=.seq its.toArray n }:=by
 obtain⟨z,its,n,r,e⟩:=I.hok l _ hH
 exact⟨z,its,n,r,r.length,e⟩
end
section
variable {X:Cx}
noncomputable def rAppend:V->List V->Hp->VK->Prop:=λx vs H Q=>∃ l xs y,x=.ref l/\vs=[y]/\H l=some (.lst xs)/\xs.length < sizeLine/\Q .non (upd H l (.lst (xs++[y])))
theorem mt_append:MtM X "list.append" rAppend:=by
 intro pins s σ H x vs v us Q I rx rv h
 obtain⟨l,xs,y,rfl,rfl,hH,hz,q⟩:=h
 cases rx
 obtain⟨u,rfl,ru⟩:=rv.one
 obtain⟨z,its,n,r,hl,e⟩:=I.lstM hH
 refine call_meets F.slot_list_append ⟨_,e,rfl⟩ F.entry_list_append (F.args_list_append_2 _ _) (PySem.list_append l its.toArray n u (by rw[List.size_toArray]; lia)) ⟨e,?_⟩
 refine⟨.non,_,I.lset (its':=its++[u]) hH e (by simp) (r.append (.cons ru .nil)) ?_,rfl,q⟩
 rw[List.length_append,List.length_singleton]
 lia
end
section
variable {prog:Program}{w:World}{A:Around}{E:Value->Shared->Prop}{s:Shared}
end
section
variable {X:Cx}
end
section
variable {κ:Type} [DecidableEq κ]
noncomputable def ziD(kvs:List (κ×V))(k:κ):Option V:=(kvs.find? λkv=>decide (kv.1=k)).map (·.2)
noncomputable def zjw(kvs:List (κ×V))(k:κ)(v:V):List (κ×V) :=
 if (kvs.any λkv=>decide (kv.1=k))=true then kvs.map (λkv=>if kv.1=k then (kv.1,v)else kv)else kvs++[(k,v)]
theorem zgM{p:κ×V}{r:List (κ×V)}{k:κ}(e:p.1=k):ziD (p::r) k=some p.2:=by simp[ziD,List.find?_cons,e]
theorem zgN{p:κ×V}{r:List (κ×V)}{k:κ}(e:¬ p.1=k):ziD (p::r) k=ziD r k:=by simp[ziD,List.find?_cons,e]
theorem zji(k:κ):∀ kvs:List (κ×V),(kvs.any λkv=>decide (kv.1=k))=(ziD kvs k).isSome
 | []=>rfl
 | p::r=>by
  rw[List.any_cons]
  by_cases e:p.1=k
  ·simp only[zgM e,decide_eq_true e,Bool.true_or,Option.isSome_some]
  ·rw[zgN e,decide_eq_false e,Bool.false_or]; exact zji k r
theorem zfJ(kvs:List (κ×V))(k:κ)(v:V):(zjw kvs k v).length<=kvs.length+1:=by
 unfold zjw
 split
 ·rw[List.length_map]; lia
 ·rw[List.length_append,List.length_cons,List.length_nil]; lia
theorem zgI.isSome_eq{o:Option V}{u:Option Value}(r:zgI o u):o.isSome=u.isSome:=by
 cases o with
 | none=>cases u with
  | none=>rfl
  | some _=>exact(show False from r).elim
 | some _=>cases u with
  | none=>exact(show False from r).elim
  | some _=>rfl
theorem zgI.getD{o:Option V}{u:Option Value}{d:V}{d':Value}(r:zgI o u)(rd:zaK d d'):zaK (o.getD d) (u.getD d'):=by
 cases o with
 | none=>cases u with
  | none=>exact rd
  | some _=>exact(show False from r).elim
 | some _=>cases u with
  | none=>exact(show False from r).elim
  | some _=>exact r
theorem KV.val{kvs:List (κ×V)}{vs:List (κ×Value)}(r:KV kvs vs)(k:κ):zgI (ziD kvs k) (valueAt vs k):=by
 unfold KV at r
 induction r with
 | nil=>exact True.intro
 | @cons p q ps qs h t ih =>
  obtain⟨h1,h2⟩:=h
  by_cases e:p.1=k
  ·have e':q.1=k:=h1.symm.trans e
   have b:valueAt (q::qs) k=some q.2:=by simp[valueAt,List.find?_cons,e']
   rw[zgM e,b]; exact h2
  ·have e':¬ q.1=k:=λz=>e (h1.trans z)
   have b:valueAt (q::qs) k=valueAt qs k:=by simp[valueAt,List.find?_cons,e']
   rw[zgN e,b]; exact ih
theorem KV.any{kvs:List (κ×V)}{vs:List (κ×Value)}(r:KV kvs vs)(k:κ):(kvs.any λkv=>decide (kv.1=k))=vs.any λkv=>decide (kv.1=k):=by
 unfold KV at r
 induction r with
 | nil=>rfl
 | cons h t ih=>rw[List.any_cons,List.any_cons,ih,h.1]
theorem KV.repl{kvs:List (κ×V)}{vs:List (κ×Value)}(r:KV kvs vs)(k:κ){y:V}{u:Value}(ry:zaK y u) :
  KV (kvs.map λkv=>if kv.1=k then (kv.1,y)else kv) (vs.map λkv=>if kv.1=k then (kv.1,u)else kv):=by
 unfold KV at r ⊢
 induction r with
 | nil=>exact .nil
 | @cons p q ps qs h t ih =>
  rw[List.map_cons,List.map_cons]
  refine .cons ?_ ih
  obtain⟨h1,h2⟩:=h
  by_cases e:p.1=k
  ·rw[if_pos e,if_pos (h1.symm.trans e)]; exact⟨h1,ry⟩
  ·rw[if_neg e,if_neg (λz=>e (h1.trans z))]; exact⟨h1,h2⟩
theorem KV.put{kvs:List (κ×V)}{vs:List (κ×Value)}(r:KV kvs vs)(k:κ){y:V}{u:Value}(ry:zaK y u):KV (zjw kvs k y) (stored vs k u):=by
 unfold zjw stored
 rw[r.any k]
 by_cases e:(vs.any λkv=>decide (kv.1=k))=true
 ·rw[if_pos e,if_pos e]; exact r.repl k ry
 ·rw[if_neg e,if_neg e]; exact Paired.snoc r ⟨rfl,ry⟩
theorem KV.length{kvs:List (κ×V)}{vs:List (κ×Value)}(r:KV kvs vs):kvs.length=vs.length:=Paired.length r
end
theorem kV_is{P:Program}{w:World}{k:Key}{u:Value}(r:zaK (kV k) u):(zaE P w).is k u=true:=by
 cases k with
 | inl i=>obtain⟨t,e⟩:=(show ∃ t,u=Value.int i t from r); subst e; exact ziP P w i t
 | inr x=>obtain⟨t,e⟩:=(show ∃ t,u=Value.str x t from r); subst e; exact ziO P w x t
theorem zh6{P:Program}{w:World}:∀ {ks:List Key} {us:List Value},zaM (ks.map kV) us->ItemsAre (zaE P w) ks us
 | [],_,r=>by rw[List.map_nil]at r; cases r; exact .nil
 | k::ks,_,r=>by
  rw[List.map_cons]at r
  cases r with
  | cons h t=>exact .cons (kV_is h) (zh6 t)
noncomputable abbrev KT(H:Hp):List (List Key×V)->List (List Key×Addr×Value)->Prop:=Paired λp q=>p.1=q.1/\H q.2.1=some (.tup (p.1.map kV))/\zaK p.2 q.2.2
theorem KT.val{H:Hp}{kvs:List (List Key×V)}{xs:List (List Key×Addr×Value)}(r:KT H kvs xs)(k:List Key):zgI (ziD kvs k) ((atKey xs k).map (·.2)):=by
 induction r with
 | nil=>exact True.intro
 | @cons p q ps qs h t ih =>
  obtain⟨h1,_,h2⟩:=h
  by_cases e:p.1=k
  ·have e':q.1=k:=h1.symm.trans e
   have b:atKey (q::qs) k=some q.2:=by simp[atKey,List.find?_cons,e']
   rw[zgM e,b]; exact h2
  ·have e':¬ q.1=k:=λz=>e (h1.trans z)
   have b:atKey (q::qs) k=atKey qs k:=by simp[atKey,List.find?_cons,e']
   rw[zgN e,b]; exact ih
theorem KT.repl{H:Hp}{kvs:List (List Key×V)}{xs:List (List Key×Addr×Value)}(r:KT H kvs xs)(k:List Key){y:V}{u:Value}(ry:zaK y u) :
  KT H (kvs.map λkv=>if kv.1=k then (kv.1,y)else kv) (xs.map (putAt k u)):=by
 induction r with
 | nil=>exact .nil
 | @cons p q ps qs h t ih =>
  rw[List.map_cons,List.map_cons]
  refine .cons ?_ ih
  obtain⟨h1,h2,h3⟩:=h
  unfold putAt
  by_cases e:p.1=k
  ·rw[if_pos e,if_pos (h1.symm.trans e)]; exact⟨h1,h2,ry⟩
  ·rw[if_neg e,if_neg (λz=>e (h1.trans z))]; exact⟨h1,h2,h3⟩
theorem KT.put{H:Hp}{kvs:List (List Key×V)}{xs:List (List Key×Addr×Value)}(r:KT H kvs xs)(k:List Key){b:Addr}{y:V}{u:Value}(hb:H b=some (.tup (k.map kV)))(ry:zaK y u) :
  KT H (zjw kvs k y) (storedH xs k b u):=by
 have e:(kvs.any λkv=>decide (kv.1=k))=(atKey xs k).isSome:=by
  rw[zji,(r.val k).isSome_eq,Option.isSome_map]
 unfold zjw storedH
 rw[e]
 by_cases q:(atKey xs k).isSome=true
 ·rw[if_pos q,if_pos q]; exact r.repl k ry
 ·rw[if_neg q,if_neg q]; exact Paired.snoc r ⟨rfl,hb,ry⟩
theorem KT.keeps{H H':Hp}{kvs:List (List Key×V)}{xs:List (List Key×Addr×Value)}(r:KT H kvs xs)(ht:∀ b ys,H b=some (.tup ys)->H' b=some (.tup ys)):KT H' kvs xs :=
 Paired.mapP r λ_ _ z=>⟨z.1,ht _ _ z.2.1,z.2.2⟩
section
variable {P:Program}{w:World}{H:Hp}{h:Heap}{a:Addr}
theorem rd_of{u:HO}(ok:HOk P w H h)(e:Rd H a u):zbz P w H h a u:=e.ok ok
theorem zib{kvs:List (Key×V)}(ok:HOk P w H h)(e:Rd H a (.dK kvs)):kvs.length<=sizeLine/\(a==sysModules)=false/\∃ vs,KV kvs vs/\h.DictOf (zaE P w) a vs :=
 show zbz P w H h a (.dK kvs)from rd_of ok e
theorem dk_of{kvs:List (Key×V)}(ok:HOk P w H h)(e:H a=some (.dK kvs)):kvs.length<=sizeLine/\(a==sysModules)=false/\∃ vs,KV kvs vs/\h.DictOf (zaE P w) a vs:=zib ok (.inl e)
theorem zh5{ks:List Key}(ok:HOk P w H h)(e:H a=some (.tup (ks.map kV))):(tupleKind (zaE P w)).is h ks a:=by
 obtain⟨_,its,r,o,h1,h2,n,h3⟩:=(show zbz P w H h a (.tup (ks.map kV))from ok a _ e)
 exact⟨o,its.toArray,n,h1,h2,h3,by simpa using zh6 r⟩
theorem zi2{kvs:List (List Key×V)}(ok:HOk P w H h)(e:Rd H a (.dT kvs)):kvs.length<=sizeLine/\(a==sysModules)=false /\
  ∃ xs,KT H kvs xs/\h.DictOfH (tupleKind (zaE P w)) a xs:=by
 obtain⟨z,y,xs,r,o,es,ep,h1,h2,h3,h4,h5⟩:=(show zbz P w H h a (.dT kvs)from rd_of ok e)
 refine⟨z,y,xs,r,o,es,ep,h1,h2,h3,h4,λx hx=>?_,h5⟩
 have all:∀ {l:List (List Key×V)} {m:List (List Key×Addr×Value)},KT H l m->∀ x∈m,(tupleKind (zaE P w)).is h x.1 x.2.1:=by
  intro l m q
  induction q with
  | nil=>intro x hx; exact nomatch hx
  | @cons p q ps qs hq t ih =>
   intro x hx
   rcases List.mem_cons.mp hx with e | hx
   ·subst e
    exact zh5 ok (by rw[<- hq.1]; exact hq.2.1)
   ·exact ih x hx
 exact all r x hx
theorem dt_of{kvs:List (List Key×V)}(ok:HOk P w H h)(e:H a=some (.dT kvs)):kvs.length<=sizeLine/\(a==sysModules)=false /\
  ∃ xs,KT H kvs xs/\h.DictOfH (tupleKind (zaE P w)) a xs:=zi2 ok (.inl e)
end
noncomputable def DGet(H:Hp)(a:Addr)(y:V)(r:Option V):Prop :=
 (∃ kvs k,Rd H a (.dK kvs)/\y=kV k/\r=ziD kvs k)∨∃ kvs k b,Rd H a (.dT kvs)/\y=.ref b/\H b=some (.tup (k.map kV))/\r=ziD kvs k
noncomputable def DPut(H:Hp)(a:Addr)(y v:V)(H':Hp):Prop :=
 (∃ kvs k,H a=some (.dK kvs)/\y=kV k/\kvs.length < sizeLine/\H'=upd H a (.dK (zjw kvs k v))) ∨
 ∃ kvs k b,H a=some (.dT kvs)/\y=.ref b/\H b=some (.tup (k.map kV))/\kvs.length < sizeLine/\H'=upd H a (.dT (zjw kvs k v))
theorem DPut.k{H:Hp}{a:Addr}{kvs:List (Key×V)}{k:Key}{v:V}(e:H a=some (.dK kvs))(hl:kvs.length < sizeLine):DPut H a (kV k) v (upd H a (.dK (zjw kvs k v))):=.inl ⟨kvs,k,e,rfl,hl,rfl⟩
section
variable {X:Cx}{pins:List (Addr×Obj)}{σ:St}{H:Hp}{s:Shared}{a:Addr}{y v:V}{u r:Value}{o:Option V}{A:Around}{E:Value->Shared->Prop}
theorem Inv.big(I:Inv X pins σ H s):sysModules < s.heap.objs.size:=by
 have h:mainGlobals < s.heap.objs.size:=(I.mod.glob.keeps I.bk).lt
 exact Nat.lt_trans (by decide) h
theorem d_getItem{Q:Value->Shared->Prop}(hu:A.units+1 < cLine)(I:Inv X pins σ H s)(g:DGet H a y (some v))(ry:zaK y u)(h:∀ w' s',Inv X pins σ H s'->zaK v w'->Q w' s') :
  wpAny (model X.prog X.w) A (getItem (.ref a) u) Q E s:=by
 rcases g with ⟨kvs,k,e,ey,l⟩ | ⟨kvs,k,b,e,ey,eb,l⟩
 ·subst ey
  obtain⟨z,hd,vs,rel,dd⟩:=zib I.hok e
  obtain⟨w',hw,rw'⟩:=zgI.some_of (v:=v) (o:=valueAt vs k) (by rw[l]; exact rel.val k)
  exact wpAny_getItem_of (kV_is ry) dd.mapOf hw (h w' _ (I.tok _) rw')
 ·subst ey
  cases (show u=Value.ref b from ry)
  obtain⟨z,hd,xs,rel,dd⟩:=zi2 I.hok e
  obtain⟨w',hw,rw'⟩:=zgI.some_of (v:=v) (o:=(atKey xs k).map (·.2)) (by rw[l]; exact rel.val k)
  obtain⟨p,hp,hp2⟩:=Option.map_eq_some_iff.mp hw
  refine wpAny_getItem_heap (tupleKind_room_in1 hu) (zh5 I.hok eb) dd hp ?_
  rw[hp2]
  exact h w' _ (I.tok _) rw'
theorem d_in{Q:Value->Shared->Prop}(hu:A.units+1 < cLine)(I:Inv X pins σ H s)(g:DGet H a y o)(ry:zaK y u)(h:∀ s',Inv X pins σ H s'->Q (.bool o.isSome) s') :
  wpAny (model X.prog X.w) A (compareOp .In u (.ref a)) Q E s:=by
 rcases g with ⟨kvs,k,e,ey,l⟩ | ⟨kvs,k,b,e,ey,eb,l⟩
 ·subst ey
  obtain⟨z,hd,vs,rel,dd⟩:=zib I.hok e
  refine wpAny_in_of (kV_is ry) hd dd.mapOf ?_
  rw[<- (rel.val k).isSome_eq,<- l]
  exact h _ (I.tok _)
 ·subst ey
  cases (show u=Value.ref b from ry)
  obtain⟨z,hd,xs,rel,dd⟩:=zi2 I.hok e
  refine wpAny_in_heap (tupleKind_room_in1 hu) (zh5 I.hok eb) hd dd ?_
  have q:=(rel.val k).isSome_eq
  rw[Option.isSome_map]at q
  rw[<- q,<- l]
  exact h _ (I.tok _)
theorem zi6{h':Heap}{t':Nat}{ob:HO}(I:Inv X pins σ H s)(mu:Mut (H a))(hs:Heap.SameBut a s.heap h')(he:∃ q,h'.get? a=some q)(new:zbz X.prog X.w (upd H a ob) h' a ob) :
  Inv X pins σ (upd H a ob) { s with heap:=h',toks:=t' } :=
 I.write (x:=a) (e:=a) mu (.inl rfl) (λb q hb z=>(hs.2 b hb).trans z) he new
theorem dk_new{P:Program}{w:World}{H':Hp}{h':Heap}{kvs:List (Key×V)}{vs:List (Key×Value)}(z:kvs.length<=sizeLine)(hd:(a==sysModules)=false)(rel:KV kvs vs)(dd:h'.DictOf (zaE P w) a vs) :
  zbz P w H' h' a (.dK kvs):=⟨z,hd,vs,rel,dd⟩
theorem d_setItem{H':Hp}{Q:Unit->Shared->Prop}(hu:A.units+1 < cLine)(I:Inv X pins σ H s)(g:DPut H a y v H')(ry:zaK y u)(rv:zaK v r)(h:∀ s',Inv X pins σ H' s'->Q () s') :
  wpAny (model X.prog X.w) A (setItem (.ref a) u r) Q E s:=by
 rcases g with ⟨kvs,k,e,ey,l,eH⟩ | ⟨kvs,k,b,e,ey,eb,l,eH⟩
 ·subst ey eH
  obtain⟨z,hd,vs,rel,dd⟩:=dk_of I.hok e
  have hz:vs.length<=sizeLine:=by rw[<- rel.length]; exact z
  have hl:(zjw kvs k v).length<=sizeLine:=by have:=zfJ kvs k v; lia
  refine wpAny_setItem_pairs (hsz:=hz) (kV_is ry) dd λh' dd' hs=>h _ ?_
  have he:∃ q,h'.get? a=some q:=let ⟨q,_,_,hq,_⟩:=dd'; ⟨q,hq⟩
  exact zi6 I (by rw[e]; exact True.intro) hs he (dk_new hl hd (rel.put k rv) dd')
 ·subst ey eH
  cases (show u=Value.ref b from ry)
  obtain⟨z,hd,xs,rel,dd⟩:=dt_of I.hok e
  have hz:xs.length<=sizeLine:=by rw[<- Paired.length rel]; exact z
  have hl:(zjw kvs k v).length<=sizeLine:=by have:=zfJ kvs k v; lia
  refine wpAny_setItem_heap (hsz:=hz) (tupleKind_room_in1 hu) (zh5 I.hok eb) dd λh' dd' hs=>h _ ?_
  obtain⟨q,es,ep,hq,h2,h3,h4,_,h5⟩:=dd'
  refine zi6 I (by rw[e]; exact True.intro) hs ⟨q,hq⟩ ⟨hl,hd,_,(rel.put k eb rv).keeps λc ys ec=>?_,q,es,ep,hq,h2,h3,h4,h5⟩
  rw[zak (ne_of ec e (λz=>nomatch z))]
  exact ec
end
section
variable {X:Cx}{pins:List (Addr×Obj)}{σ:St}{H:Hp}{s:Shared}{a:Addr}{kvs:List (Key×V)}{k:Key}{u:Value}{A:Around}{E:Value->Shared->Prop}
theorem d_len{Q:Value->Shared->Prop}(I:Inv X pins σ H s)(e:Rd H a (.dK kvs))(h:∀ t s',Inv X pins σ H s'->Q (.int kvs.length t) s'):wpAny (model X.prog X.w) A (call (.builtin "len") [.ref a]) Q E s:=by
 obtain⟨z,hd,vs,rel,dd⟩:=zib I.hok e
 refine call_len_dict hd dd (by rw[<- rel.length]; rw[sizeLine_eq]at z; lia) ?_
 rw[<- rel.length]
 exact h _ _ (I.tok _)
end
theorem zi4{X:Cx}{pins:List (Addr×Obj)}{σ:St}{H:Hp}{s:Shared}{a:Addr}{y:V}{o:Option V}(I:Inv X pins σ H s)(g:DGet H a y o):s.TypeIs (.ref a) "dict":=by
 rcases g with ⟨kvs,k,e,_,_⟩ | ⟨kvs,k,b,e,_,_,_⟩
 ·obtain⟨_,_,vs,_,dd⟩:=zib I.hok e
  exact dd.typeIs
 ·obtain⟨_,_,xs,_,dd⟩:=zi2 I.hok e
  exact dd.typeIs
theorem zi5{X:Cx}{pins:List (Addr×Obj)}{σ:St}{H:Hp}{s:Shared}{a:Addr}{y:V}{o:Option V}(I:Inv X pins σ H s)(g:DGet H a y o) :
  ∀ b,Value.ref a=.ref b->∃ ob,s.heap.get? b=some ob/\ob.dict=none:=λb q=>by
 cases q
 rcases g with ⟨kvs,k,e,_,_⟩ | ⟨kvs,k,b,e,_,_,_⟩
 ·obtain⟨_,_,vs,_,ob,_,_,h1,h2,_⟩:=zib I.hok e
  exact⟨ob,h1,h2.2.1⟩
 ·obtain⟨_,_,xs,_,ob,_,_,h1,h2,_⟩:=zi2 I.hok e
  exact⟨ob,h1,h2.2.1⟩
section
variable {X:Cx}{o i e value:Expr}{pos pos' tpos:Pos}{td ty tv:TE}
end
theorem dk_empty{P:Program}{w:World}{H:Hp}(h:Heap)(hb:sysModules < h.objs.size):zbz P w H (h.push { cls:=.type "dict",data:=.dict #[] }) h.objs.size (.dK []) :=
 ⟨Nat.zero_le _,beq_eq_false_iff_ne.mpr (Ne.symm (nNl hb)),[],.nil,Heap.DictOf.new h⟩
noncomputable def tDNewK:TE:=λ_ H Q=>∀ p,H p=none->Q (.ref p) (upd H p (.dK []))
section
variable {X:Cx}{pos:Pos}
theorem pe_dnewK:PE X (.Dict [] [] pos) tDNewK:=λpins s σ H Q I h =>
 wpAny_Dict_empty ⟨.ref s.heap.objs.size,_,I.laid (a:=s.heap.objs.size) (o:=.dK []) (t':=s.toks) (λ_ _ q=>hPs _ q) (nLr _) (dk_empty s.heap I.big),rfl,h _ (I.hok.fresh (nLr _))⟩
end
structure M1(X:Cx)(o:Expr)(m:Str)(apos:Pos)(e:Expr)(cpos:Pos):Prop where
 base:attributeBase o m X.env (eval o X.env)=eval o X.env
 few:((backTo cpos (starEach [e] X.env)).all (λx=>!x.1)&&(backToKw cpos (keywordEach [] X.env)).all (λx=>x.1.isSome)
  && decide (([e]:List Expr).length+([]:List Keyword).length+(if ([]:List Keyword).isEmpty then 0 else 1) < 30))=true
 line:(apos.endLine==cpos.line)=true
 trees:backTo cpos (starEach [e] X.env)=[(false,eval e X.env)]
structure M2(X:Cx)(o:Expr)(m:Str)(apos:Pos)(e f:Expr)(cpos:Pos):Prop where
 base:attributeBase o m X.env (eval o X.env)=eval o X.env
 few:((backTo cpos (starEach [e,f] X.env)).all (λx=>!x.1)&&(backToKw cpos (keywordEach [] X.env)).all (λx=>x.1.isSome)
  && decide (([e,f]:List Expr).length+([]:List Keyword).length+(if ([]:List Keyword).isEmpty then 0 else 1) < 30))=true
 line:(apos.endLine==cpos.line)=true
 trees:backTo cpos (starEach [e,f] X.env)=[(false,eval e X.env),(false,eval f X.env)]
noncomputable def IsD(H:Hp)(a:Addr):Prop:=(∃ kvs,Rd H a (.dK kvs))∨∃ kvs,Rd H a (.dT kvs)
theorem isD_at{X:Cx}{pins:List (Addr×Obj)}{σ:St}{H:Hp}{s:Shared}{a:Addr}(I:Inv X pins σ H s)(d:IsD H a) :
  s.TypeIs (.ref a) "dict"/\(∀ b,Value.ref a=.ref b->∃ ob,s.heap.get? b=some ob/\ob.dict=none)/\(a==sysModules)=false:=by
 rcases d with ⟨kvs,e⟩ | ⟨kvs,e⟩
 ·obtain⟨_,hd,vs,_,dd⟩:=zib I.hok e
  refine⟨dd.typeIs,λb q=>?_,hd⟩
  cases q
  obtain⟨ob,_,_,h1,h2,_⟩:=dd
  exact⟨ob,h1,h2.2.1⟩
 ·obtain⟨_,hd,xs,_,dd⟩:=zi2 I.hok e
  refine⟨dd.typeIs,λb q=>?_,hd⟩
  cases q
  obtain⟨ob,_,_,h1,h2,_⟩:=dd
  exact⟨ob,h1,h2.2.1⟩
section
variable {X:Cx}{pins:List (Addr×Obj)}{σ:St}{H:Hp}{s:Shared}{a:Addr}{y d:V}{u r:Value}{o:Option V}{A:Around}{E:Value->Shared->Prop}
theorem d_get2{Q:Value->Shared->Prop}(hu:A.units+1 < cLine)(I:Inv X pins σ H s)(g:DGet H a y o)(ry:zaK y u)(rd:zaK d r)(h:∀ w' s',Inv X pins σ H s'->zaK (o.getD d) w'->Q w' s') :
  wpAny (model X.prog X.w) A (call (.builtin "dict.get") [.ref a,u,r]) Q E s:=by
 rcases g with ⟨kvs,k,e,ey,l⟩ | ⟨kvs,k,b,e,ey,eb,l⟩
 ·subst ey
  obtain⟨z,hd,vs,rel,dd⟩:=zib I.hok e
  refine call_meetsIn PySem.F.slot_dict_get dd.typeIs PySem.F.entry_dict_get (PySem.F.args_dict_get_3 _ _ _) (meets_dict_get_default (zaE X.prog X.w) a (kV_is ry) hd r) ⟨_,dd.mapOf,h _ _ (I.tok _) ?_⟩
  rw[l]
  exact(rel.val k).getD rd
 ·subst ey
  cases (show u=Value.ref b from ry)
  obtain⟨z,hd,xs,rel,dd⟩:=zi2 I.hok e
  refine call_meetsIn PySem.F.slot_dict_get dd.typeIs PySem.F.entry_dict_get (PySem.F.args_dict_get_3 _ _ _) (meetsH_dict_get_default (tupleKind (zaE X.prog X.w)) a b hd r) ⟨tupleKind_room_in1 hu,k,xs,zh5 I.hok eb,dd,h _ _ (I.tok _) ?_⟩
  rw[l]
  exact(rel.val k).getD rd
end
section
variable {X:Cx}{o e f:Expr}{apos cpos:Pos}{td ty tx:TE}
end
section
variable {X:Cx}{pins:List (Addr×Obj)}{σ:St}{H:Hp}{s:Shared}{a:Addr}{kvs:List (Key×V)}{A:Around}{E:Value->Shared->Prop}
end
section
variable {X:Cx}{pins:List (Addr×Obj)}{σ:St}{H:Hp}{s:Shared}{a:Addr}{y:V}{u:Value}{A:Around}{E:Value->Shared->Prop}
end
end L2
namespace Att
open PySem PySem.W PySem.Calls PyProof.Rows
theorem zfO{P:Params}{h:Heap}:∀ (ns:List Int) (vs:List Value),WellAll P h vs (ns.map WData.int)->IntsAre vs ns:=by
 intro ns
 induction ns with
 | nil =>
  intro vs w
  rw[List.map_nil]at w
  cases w
  exact .nil
 | cons n ns ih =>
  intro vs w
  rw[List.map_cons]at w
  cases w with
  | cons a b =>
   cases a
   exact .cons _ _ (ih _ b)
theorem script_of{l:OpenLaw}{n:Nat}(hn:l.most=some n){P:Params}{h:Heap}{args:List WData}{vals:List Value}
  (hpre:l.row.toRowW.claim.pre args=true) (hwl:WellAll P h vals args) :
  ∃ a vs ns,vals=[Value.ref a]/\args=[WData.list (ns.map WData.int)]/\h.get? a=some { cls:=.type "list",data:=.seq vs.toArray }/\IntsAre vs ns/\ns.length<=n:=by
 have hsh:WShape.hasAll [] args [.list .int]=true:=(pre_splitW hpre).1
 have hc:l.pre.holds [] { args:=args }=true:=(pre_splitW hpre).2
 obtain⟨d,r,rfl,h1,h2⟩:=hasAllW_cons hsh
 obtain rfl:=hasAllW_nil h2
 obtain⟨xs,rfl,h3⟩:=hasW_list h1
 obtain⟨ns,rfl⟩:=items_int h3
 have hlen:ns.length<=n:=by
  unfold OpenLaw.pre at hc
  have h4:(WTm.not (.lt (.lit (.int (n:Int))) (.len (.arg 0)))).holds [] { args:=[.list (ns.map .int)] }=true:=by
   have h4:=(holds_andW hc).1
   rw[hn]at h4
   exact h4
  have h5:=condW_of h4 (w_not (w_lt w_lit (w_len_list (w_arg rfl))))
  rw[List.length_map]at h5
  refine Nat.le_of_not_lt λq=>?_
  have q':(n:Int) < ((ns.length:Nat):Int):=by lia
  first
   | (rw[decide_eq_true q']at h5; exact absurd h5 (by decide))
   | (simp at h5; lia)
 cases hwl with
 | cons w1 w2 =>
  cases w2
  cases w1 with
  | list ho hall=>exact⟨_,_,ns,rfl,rfl,ho,zfO ns _ hall,hlen⟩
theorem post_true(l:OpenLaw)(args:List WData):l.row.toRowW.claim.post args (.bool true) args=true :=
 postW_of (r:=l.row.toRowW) (X:=(true==true))
  (show WShape.has [] (.bool true) .bool=true by first | rfl | decide | simp[WShape.has,WShape.arms,WShape.armsAll])
  (show(WTm.eq .res (.lit (.bool true))).value [] { args:=args,res:=some (.bool true),after:=args }=some (.bool (true==true))from w_eq_bool (w_res rfl) w_lit) rfl
theorem attach_call{l:OpenLaw}{n:Nat}{q:Program}{loose:List Str}{XP:(Str->Option Value)->Heap->Prop}{YP:World->Heap->Prop}{d:DefRec}
  (hn:l.most=some n) (hdf:d.params.defaults=[])
  (call:∀ (w:World) (s₀ s₁:Shared) (mg mb:Str->Option Value) (fa:Addr) (o:Obj) (pm cd doc:Value) (a:Addr) (vs:List Value) (ns:List Int),
   Ground q loose [] XP w s₀ mg mb s₁.heap->YP w s₁.heap ->
   s₁.heap.get? fa=some o->o.data=.func (docDef d.name d.params d.body d.scope pm cd doc)->s₁.heap.CodeRec cd d.name->mg d.name=some (.ref fa) ->
   s₁.heap.get? a=some { cls:=.type "list",data:=.seq vs.toArray }->IntsAre vs ns->ns.length<=n->s₁.gens=#[] ->
   codeAny (model l.prog w) callerA (.call (.ref fa) ⟨[.ref a],[]⟩) (λr s'=>r=.ok (.ret (.bool true))/\OldK s₁.heap s'.heap/\s'.os=s₁.os/\AllBare s'.gens) s₁) :
  WalkO q loose XP YP l.row.toRowW d [] (λf vs=>PySem.call f vs):=by
 intro w s₀ s₁ mg mb G Y fa o pm cd doc dV kV ho hd hcd hD hmg hg args vals as hpre hlay hrd hwl hlo
 obtain rfl:dV=.none:=Dflts.none hD hdf
 obtain rfl:kV=.none:=Dflts.noKw hD
 obtain⟨a,vs,ns,rfl,rfl,hobj,hints,hlen⟩:=script_of hn hpre hwl
 refine enter_call (codeAny_mono (call w s₀ s₁ mg mb fa o pm cd doc a vs ns G Y ho (fd_plain hd) hcd hmg hobj hints hlen hg) λr s' hq=>?_)
 obtain⟨rfl,h2,h3,h4⟩:=hq
 exact⟨.inl ⟨.bool true,.bool true,[],rfl,λ_=>rfl,.bool true,post_true l _,λ_=>⟨List.Pairwise.nil,λ_ hm=>(nomatch hm)⟩⟩,h2,h3,h4⟩
section
variable {prog:Program}{w:World}{A:Around}{E:Value->Shared->Prop}{s:Shared}{K:Frag}
end
end Att
namespace L2
open PySem PySem.Spec PyProof.Rows
theorem zfq:∀ {vs:List Value} {ns:List Int},IntsAre vs ns->zaM (ns.map V.int) vs
 | _,_,.nil=>.nil
 | _,_,.cons n t h=>.cons ⟨t,rfl⟩ (zfq h)
def zav(s:Stmt)(j:Nat):Stmt:=match s with
 | .ClassDef _ _ _ body _ _ _ _ _ _ _=>body.getD j (.Pass ⟨0,0,0,0⟩)
 | _=>.Pass ⟨0,0,0,0⟩
noncomputable def zfS(s:Stmt):Arguments:=match s with
 | .FunctionDef _ a _ _ _ _ _ _ _ _=>a
 | _=>{ posonlyargs:=[],args:=[],vararg:=none,kwonlyargs:=[],kw_defaults:=[],kwarg:=none,defaults:=[] }
noncomputable def zdn(s:Stmt):List Stmt:=match s with
 | .FunctionDef _ _ b _ _ _ _ _ _ _=>b
 | _=>[]
noncomputable def zac(s:Stmt):Scope:=match s with
 | .FunctionDef _ _ _ _ _ _ sc _ _ _=>sc
 | _=>{ kind:=.function,names:=[],isGenerator:=false,isCoroutine:=false }
noncomputable abbrev CX0:CXT:=λ_ _ _ _ _ _=>False
noncomputable abbrev E0:XK:=λ_ _ _=>False
theorem pass0{X:Cx}:zdv CX0 X E0:=λ_ _ _ _ _ _ _ h=>h.elim
structure Fun(K:W.Frag)(x qual:Str)(st:Stmt)(f:Addr)(fd:FuncData):Prop where
 ex:∃ (oc:Value) (od:Option Addr) (kV doc pm:Value) (an:Option Addr) (cdv ct:Value) (osl:Array (Option Value)),
  fd=W.fnOf x qual (zfS st) (zdn st) (zac st) .none kV doc pm an cdv ct/\K.lookup f=some ⟨oc,od,.func fd,osl⟩/\W.codeIn K cdv qual=true
 kp:W.keepIn K (.ref f)=true
section
variable {P:Program}{w:World}{K:W.Frag}{mg:Str->Option Value}{base:Heap}
theorem Fun.ok{x qual:Str}{st:Stmt}{f:Addr}{fd:FuncData}{N ps:List Str}{k:Nat}{sp:Sp}(F:Fun K x qual st f fd)(S:FnScope N ps (zac st))(len:∀ vs H Q E,sp vs H Q E->vs.length=ps.length)
  (hbody:∀ (cdv:Value) (A:Around) (outer:List Env) (s:Shared) (H:Hp) (vs:List V) (Q:VK) (E:XK),Room k (A.deeper (envOfC qual (zac st) s.heap.objs.size f cdv))->sp vs H Q E ->
   ∃ t,PSs (cxOf CX0 P w K mg base N qual (zac st) f cdv A outer s H E).nox (zdn st) t/\t { nx:=λ_ H'=>Q .non H',rt:=Q } (start N vs) H):FnOk P w K mg base CX0 (k+1) f fd ps sp:=by
 obtain⟨oc,od,kV,doc,pm,an,cdv,ct,osl,rfl,lk,hcd⟩:=F.ex
 refine fn_of lk hcd S len λA outer s H vs Q E hr hsp=>?_
 obtain⟨t,h,q⟩:=hbody cdv A outer s H vs Q E hr hsp
 exact⟨t,h.nox,q⟩
theorem Fun.binds{x qual:Str}{st:Stmt}{f:Addr}{fd:FuncData}{ps:List Str}(F:Fun K x qual st f fd)
  (h:∀ (kV doc pm:Value) (an:Option Addr) (cdv ct:Value) (us:List Value),us.length=ps.length->bindArgs (W.fnOf x qual (zfS st) (zdn st) (zac st) .none kV doc pm an cdv ct) ⟨us,[]⟩=pure (ps.zip us)):zcl K fd ps []:=by
 obtain⟨oc,od,kV,doc,pm,an,cdv,ct,osl,rfl,lk,hcd⟩:=F.ex
 exact .all (h kV doc pm an cdv ct)
theorem zao{x qual:Str}{st:Stmt}{f:Addr}{oc:Value}{od an:Option Addr}{osl:Array (Option Value)}{kV doc pm cdv ct:Value}(l:K.lookup f=some ⟨oc,od,.func (W.fnOf x qual (zfS st) (zdn st) (zac st) .none kV doc pm an cdv ct),osl⟩)
  (c:W.codeIn K cdv qual=true) (k:W.keepIn K (.ref f)=true):Fun K x qual st f (W.fnOf x qual (zfS st) (zdn st) (zac st) .none kV doc pm an cdv ct):=⟨⟨oc,od,kV,doc,pm,an,cdv,ct,osl,rfl,l,c⟩,k⟩
end
theorem hu_of{A:Around}{k:Nat}(hr:Room k A):A.units+1 < cLine:=Nat.lt_of_le_of_lt (Nat.add_le_add_left (by decide:1<=64) _) hr.units
theorem zhH{n:Nat}(h:n<=1000):n < sizeLine:=Nat.lt_of_le_of_lt h (by decide)
section
variable {X:Cx}
theorem call_lenD:zcV X (.builtin "len") (λxs H Q=>∃ a kvs,xs=[V.ref a]/\H a=some (.dK kvs)/\Q (.int kvs.length) H):=by
 intro pins s σ H xs us Q I r h
 obtain⟨a,kvs,rfl,ha,q⟩:=h
 obtain⟨u,rfl,ru⟩:=vals1 r
 cases ru
 exact d_len I (.inl ha) λt s' I'=>⟨.int kvs.length,H,I',⟨t,rfl⟩,q⟩
end
section
variable {κ:Type} [DecidableEq κ]
end
end L2
set_option maxHeartbeats 4000000
namespace L2
open PySem PySem.Spec PyProof.Rows
inductive A0 where
 | non | int (i:Int) | str (x:Str)
 deriving DecidableEq
inductive A1 where
 | at (a:A0) | tup (l:List A0)
 deriving DecidableEq
noncomputable abbrev LK:=List A1
noncomputable def A0.val:A0->Value->Prop
 | .non,v=>v=.none
 | .int i,v=>∃ t,v=.int i t
 | .str x,v=>∃ t,v=.str x t
noncomputable def zcU(h:Heap)(a:Addr)(items:Array Value):Prop:=∃ o n,h.get? a=some o/\o.cls=.type "tuple"/\o.data=.seq items n
noncomputable def A1.val(h:Heap):A1->Value->Prop
 | .at a,v=>a.val v
 | .tup l,v=>∃ b items,v=.ref b/\zcU h b items/\Paired A0.val l items.toList
noncomputable def ziY(h:Heap)(k:LK)(a:Addr):Prop:=∃ items,zcU h a items/\Paired (A1.val h) k items.toList
theorem A0.inj{x y:A0}{v:Value}(h:x.val v)(h':y.val v):x=y:=by
 cases x<;>cases y<;>simp only[A0.val]at h h'
 all_goals first
  | rfl
  | (subst h; obtain⟨t,e⟩:=h'; cases e; done)
  | (subst h'; obtain⟨t,e⟩:=h; cases e; done)
  | (obtain⟨t,e⟩:=h; obtain⟨t',e'⟩:=h'; subst e; cases e'; first | rfl | done)
theorem Paired.injL{α β:Type}{F:α->β->Prop}(i:∀ x y v,F x v->F y v->x=y):∀ {l l':List α} {r:List β},Paired F l r->Paired F l' r->l=l'
 | _,_,_,.nil,.nil=>rfl
 | _,_,_,.cons a b,.cons c d=>by rw[i _ _ _ a c,Paired.injL i b d]
theorem zcU.inj{h:Heap}{a:Addr}{i j:Array Value}(x:zcU h a i)(y:zcU h a j):i=j:=by
 obtain⟨o,n,e,_,d⟩:=x
 obtain⟨o',n',e',_,d'⟩:=y
 rw[e]at e'; cases e'
 rw[d]at d'; injection d'
theorem A1.inj{h:Heap}{x y:A1}{v:Value}(p:x.val h v)(q:y.val h v):x=y:=by
 cases x with
 | «at» a =>
  cases y with
  | «at» b=>exact congrArg A1.at (A0.inj p q)
  | tup l =>
   obtain⟨b,items,rfl,_⟩:=q
   cases a<;>simp only[A1.val,A0.val]at p
   all_goals first | (obtain⟨t,e⟩:=p; cases e; done) | (cases p; done)
 | tup l =>
  obtain⟨b,items,rfl,t,r⟩:=p
  cases y with
  | «at» a =>
   cases a<;>simp only[A1.val,A0.val]at q
   all_goals first | (obtain⟨t,e⟩:=q; cases e; done) | (cases q; done)
  | tup l' =>
   obtain⟨b',items',e,t',r'⟩:=q
   cases e
   have:=t.inj t'
   subst this
   exact congrArg A1.tup (Paired.injL (F:=A0.val) (λ_ _ _=>A0.inj) r r')
theorem ziY.inj{h:Heap}{a:Addr}{x y:LK}(p:ziY h x a)(q:ziY h y a):x=y:=by
 obtain⟨i,t,r⟩:=p
 obtain⟨j,t',r'⟩:=q
 have:=t.inj t'
 subst this
 exact Paired.injL (F:=A1.val h) (λ_ _ _=>A1.inj) r r'
theorem zcU.keeps{h h':Heap}{a d:Addr}{items:Array Value}{o:Obj}{es ep}(x:zcU h a items)(ho:h.get? d=some o)(hd:o.data=.dict es ep)(hs:Heap.SameBut d h h'):zcU h' a items:=by
 obtain⟨o',n,e,c,dd⟩:=x
 refine⟨o',n,(hs.2 a ?_).trans e,c,dd⟩
 rintro rfl
 rw[e]at ho; cases ho
 rw[dd]at hd; cases hd
theorem ziY.keeps{h h':Heap}{k:LK}{a d:Addr}{o:Obj}{es ep}(x:ziY h k a)(ho:h.get? d=some o)(hd:o.data=.dict es ep)(hs:Heap.SameBut d h h'):ziY h' k a:=by
 obtain⟨i,t,r⟩:=x
 refine⟨i,t.keeps ho hd hs,Paired.mapP r λp v q=>?_⟩
 cases p with
 | «at» a=>exact q
 | tup l =>
  obtain⟨b,items,rfl,t',r'⟩:=q
  exact⟨b,items,rfl,t'.keeps ho hd hs,r'⟩
noncomputable def zh9(w:World):A0->Int
 | .non=>0xFCA86420
 | .int i=>hashInt i
 | .str x=>hashStr w x
noncomputable def tupH(l:List Int):Int:=reduceHash (Builtin.Tuple.tupleHashOf l)
noncomputable def zi0(w:World):A1->Int
 | .at a=>zh9 w a
 | .tup l=>tupH (l.map (zh9 w))
noncomputable def zi3:A1->Nat
 | .at _=>1
 | .tup l=>l.length+1
section
variable {prog:Program}{w:World}{A:Around}{E:Value->Shared->Prop}{s:Shared}
theorem ziM{Q:Int->Shared->Prop}(h:Q 0xFCA86420 { s with toks:=s.toks+1 }):wpAny (model prog w) A (pyHash .none) Q E s:=by
 unfold pyHash
 first | unfold pyHashByItsType | skip
 have hv:[Value.none].any Value.onHeap=false:=rfl
 refine wB ?_
 rw[cRoomFor,if_neg (by rw[hv]; exact Bool.false_ne_true)]; refine wpAny_pure ?_
 refine wB (wpAny_specialOf (typeIs_none s) F.slot_NoneType_hash.lookup ?_)
 show wpAny _ _ (if (some (Value.builtin "NoneType.__hash__")==some Value.none)=true then _ else _) Q E s
 rw[if_neg (by rw[beq_builtin_none]; exact Bool.false_ne_true)]
 refine wB (wpAny_specialOf (typeIs_none s) F.slot_NoneType_hash.lookup ?_)
 show wpAny _ _ (callSpecialIfBoundUnlessNone? .none "__hash__" _ >>= _) Q E s
 refine wB (wpAny_callSpecialIfBoundUnlessNone?_slot (typeIs_none s) F.slot_NoneType_hash
  (wpAny_call_entry F.slot_NoneType_hash (typeIs_none s) F.entry_NoneType_hash
   (show wpAny _ _ (do ret (<- mkInt 0xFCA86420)) _ _ s from wpAny_ret_mkInt ?_) (F.args_NoneType_hash_1 _)))
 exact wQ h
noncomputable def zgJ(prog:Program)(w:World)(u:Nat)(s:Shared)(v:Value)(n:Int)(d:Nat):Prop :=
 ∀ (A:Around) (E:Value->Shared->Prop) (tk:Nat) (Q:Int->Shared->Prop),A.units<=u->Q n { s with toks:=tk+d }->wpAny (model prog w) A (pyHash v) Q E { s with toks:=tk }
theorem zjK{a:A0}{v:Value}{u:Nat}(h:a.val v):zgJ prog w u s v (zh9 w a) 1:=by
 intro A E tk Q _ q
 cases a with
 | non=>cases (show v=.none from h); exact ziM (s:={ s with toks:=tk }) q
 | int i=>obtain⟨t,e⟩:=h; subst e; exact wpAny_pyHash_int (s:={ s with toks:=tk }) q
 | str x=>obtain⟨t,e⟩:=h; subst e; exact wpAny_pyHash_str (s:={ s with toks:=tk }) q
theorem zgw{a:Addr}{items:Array Value}{hs:List (Int×Nat)}{u:Nat}{Q:Int->Shared->Prop}(hu:A.units < cLine)(hu1:A.units+1<=u)(ht:zcU s.heap a items)
  (hi:Paired (λp v=>zgJ prog w u s v p.1 p.2) hs items.toList) (h:Q (tupH (hs.map (·.1))) { s with toks:=s.toks+((hs.map (·.2)).sum+1) }):wpAny (model prog w) A (pyHash (.ref a)) Q E s:=by
 obtain⟨o,n,ho,hc,hd⟩:=ht
 have hT:s.TypeIs (.ref a) "tuple":=⟨o,ho,hc⟩
 unfold pyHash
 first | unfold pyHashByItsType | skip
 first | refine wB (wpAny_cRoomFor_or (.inr hu) ?_) | skip
 refine wB (wpAny_specialOf hT F.slot_tuple_hash.lookup ?_)
 show wpAny _ _ (if (some (Value.builtin "tuple.__hash__")==some Value.none)=true then _ else _) Q E s
 rw[if_neg (by rw[beq_builtin_none]; exact Bool.false_ne_true)]
 refine wB (wpAny_specialOf hT F.slot_tuple_hash.lookup ?_)
 show wpAny _ _ (callSpecialIfBoundUnlessNone? (.ref a) "__hash__" _ >>= _) Q E s
 refine wB (wpAny_callSpecialIfBoundUnlessNone?_slot hT F.slot_tuple_hash (wpAny_call_entry F.slot_tuple_hash hT F.entry_tuple_hash ?_ (F.args_tuple_hash_1 _)))
 show wpAny _ _ (Builtin.Tuple.tupleItemsOf (.ref a) >>= _) _ _ s
 refine wB (wpAny_tupleItemsOf ho hd ?_)
 refine wB ?_
 rw[<- Array.forIn_toList]
 refine wpAny_forIn_list _
  (λrest (b:Array Int) s'=>∃ done left,hs=done++left/\Paired (λp v=>zgJ prog w u s v p.1 p.2) left rest/\b.toList=done.map (·.1)/\s'={ s with toks:=s.toks+(done.map (·.2)).sum })
  _ ?_ ?_ _ _ ⟨[],hs,rfl,hi,rfl,rfl⟩
 ·rintro x rest b s' ⟨done,left,rfl,hl,hb,rfl⟩
  cases hl with
  | @cons k _ ks' _ h1 hl' =>
   refine wB (h1 _ _ _ _ hu1 ?_)
   first
    | exact wpAny_pure ⟨done++[k],ks',by simp,hl',by simp[hb],by simp[Nat.add_assoc]⟩
    | exact wpAny_bind (wpAny_pure (wpAny_pure ⟨done++[k],ks',by simp,hl',by simp[hb],by simp[Nat.add_assoc]⟩))
 ·rintro b s' ⟨done,left,rfl,hl,hb,rfl⟩
  cases hl
  rw[List.append_nil]at h
  show wpAny _ _ (retInt (Builtin.Tuple.tupleHashOf b.toList)) _ _ _
  rw[hb]
  refine wpAny_ret_mkInt ?_
  show wpAny _ _ (if (decide (-(2:Int) ^ 63<=Builtin.Tuple.tupleHashOf (done.map (·.1)))&&decide (Builtin.Tuple.tupleHashOf (done.map (·.1)) < 2 ^ 63))=true then _ else _) Q E _
  unfold tupH reduceHash at h
  by_cases hr:(decide (-(2:Int) ^ 63<=Builtin.Tuple.tupleHashOf (done.map (·.1)))&&decide (Builtin.Tuple.tupleHashOf (done.map (·.1)) < 2 ^ 63))=true
  ·rw[if_pos hr]
   rw[if_pos hr]at h
   exact wpAny_pure (by simpa [Nat.add_assoc] using h)
  ·rw[if_neg hr]
   rw[if_neg hr]at h
   exact wpAny_bind (wpAny_rule (wpAny_pure (by simpa [Nat.add_assoc] using h)))
theorem hash1_is{a:A1}{v:Value}{u:Nat}(hu:u < cLine)(h:a.val s.heap v):zgJ prog w u s v (zi0 w a) (zi3 a):=by
 cases a with
 | «at» a=>exact zjK h
 | tup l =>
  obtain⟨b,items,rfl,t,r⟩:=h
  intro A E tk Q hA q
  have hi:Paired (λ(p:Int×Nat) v=>zgJ prog w (A.units+1) { s with toks:=tk } v p.1 p.2) (l.map λa=>(zh9 w a,1)) items.toList:=by
   generalize items.toList=vs at r
   clear q t
   induction r with
   | nil=>exact .nil
   | cons p _ ih=>exact .cons (zjK p) ih
  refine zgw (s:={ s with toks:=tk }) (u:=A.units+1) (Nat.lt_of_le_of_lt hA hu) (nLr _) t hi ?_
  have e1:(l.map λa=>(zh9 w a,1)).map (·.1)=l.map (zh9 w):=by rw[List.map_map]; rfl
  have e2:((l.map λa=>(zh9 w a,1)).map (·.2)).sum=l.length:=by
   clear hi r q
   rw[List.map_map]
   have:∀ l:List A0,(l.map ((λx=>x.2)∘λa=>(zh9 w a,1))).sum=l.length:=by
    intro l
    induction l with
    | nil=>rfl
    | cons x l ih=>simp only[List.map_cons,List.sum_cons,List.length_cons,ih,Function.comp]; lia
   exact this l
  rw[e1,e2]
  exact q
theorem hashLK{k:LK}{a:Addr}{Q:Int->Shared->Prop}(hu:A.units+4 < cLine)(hk:ziY s.heap k a)(h:Q (tupH (k.map (zi0 w))) { s with toks:=s.toks+((k.map zi3).sum+1) }):wpAny (model prog w) A (pyHash (.ref a)) Q E s:=by
 obtain⟨items,t,r⟩:=hk
 have hi:Paired (λ(p:Int×Nat) v=>zgJ prog w (A.units+1) s v p.1 p.2) (k.map λa=>(zi0 w a,zi3 a)) items.toList:=by
  generalize items.toList=vs at r
  clear h
  induction r with
  | nil=>exact .nil
  | cons p _ ih=>exact .cons (hash1_is (by lia) p) ih
 refine zgw (u:=A.units+1) (by lia) (nLr _) t hi ?_
 have e1:(k.map λa=>(zi0 w a,zi3 a)).map (·.1)=k.map (zi0 w):=by rw[List.map_map]; rfl
 have e2:(k.map λa=>(zi0 w a,zi3 a)).map (·.2)=k.map zi3:=by rw[List.map_map]; rfl
 rw[e1,e2]
 exact h
noncomputable def A0.d:A0->PyData
 | .non=>.none
 | .int i=>.int i
 | .str x=>.str x
noncomputable def A1.d:A1->PyData
 | .at a=>a.d
 | .tup l=>.tuple (l.map A0.d)
noncomputable def dLK(k:LK):PyData:=.tuple (k.map A1.d)
noncomputable def A0.ok:A0->Bool
 | .str x=>PyData.strOk x
 | _=>true
noncomputable def A1.ok:A1->Bool
 | .at a=>a.ok
 | .tup l=>l.all A0.ok
noncomputable def zhy(k:LK):Bool:=k.all A1.ok
theorem eqv0(x y:A0):PyData.eqv x.d y.d=decide (x=y):=by
 cases x<;>cases y<;>simp[A0.d,PyData.eqv,Bool.beq_eq_decide_eq]
theorem eqvAll0:∀ (l r:List A0),PyData.eqvAll (l.map A0.d) (r.map A0.d)=decide (l=r)
 | [],[]=>by simp[PyData.eqvAll]
 | [],_::_=>by simp[PyData.eqvAll]
 | _::_,[]=>by simp[PyData.eqvAll]
 | x::l,y::r=>by
  simp only[List.map_cons,PyData.eqvAll,eqv0,eqvAll0 l r]
  by_cases h1:x=y<;>by_cases h2:l=r<;>simp[h1,h2]
theorem eqv1(x y:A1):PyData.eqv x.d y.d=decide (x=y):=by
 cases x with
 | «at» a =>
  cases y with
  | «at» b=>simp only[A1.d,eqv0]; by_cases h:a=b<;>simp[h]
  | tup l=>cases a<;>simp[A1.d,A0.d,PyData.eqv]
 | tup l =>
  cases y with
  | «at» b=>cases b<;>simp[A1.d,A0.d,PyData.eqv]
  | tup r=>simp only[A1.d,PyData.eqv,eqvAll0]; by_cases h:l=r<;>simp[h]
theorem eqvAll1:∀ (l r:LK),PyData.eqvAll (l.map A1.d) (r.map A1.d)=decide (l=r)
 | [],[]=>by simp[PyData.eqvAll]
 | [],_::_=>by simp[PyData.eqvAll]
 | _::_,[]=>by simp[PyData.eqvAll]
 | x::l,y::r=>by
  simp only[List.map_cons,PyData.eqvAll,eqv1,eqvAll1 l r]
  by_cases h1:x=y<;>by_cases h2:l=r<;>simp[h1,h2]
theorem reads0{h:Heap}{a:A0}{v:Value}(p:a.val v)(o:a.ok=true):Reads h v a.d []/\a.d.canLay0=true/\a.d.depth=0:=by
 cases a with
 | non=>cases (show v=.none from p); exact⟨.none,rfl,rfl⟩
 | int i=>obtain⟨t,e⟩:=p; subst e; exact⟨.int i t,rfl,rfl⟩
 | str x=>obtain⟨t,e⟩:=p; subst e; exact⟨.str x t,by simp only[A0.d,PyData.canLay0]; exact o,rfl⟩
theorem zhN{h:Heap}:∀ {l:List A0} {vs:List Value},Paired A0.val l vs->l.all A0.ok=true->ReadsAll h vs (l.map A0.d) []/\PyData.canLayAll0 (l.map A0.d)=true/\PyData.depthAll (l.map A0.d)=0
 | _,_,.nil,_=>⟨.nil,rfl,rfl⟩
 | x::l,_,.cons p r,o=>by
  rw[List.all_cons,Bool.and_eq_true]at o
  obtain⟨r1,c1,d1⟩:=reads0 (h:=h) p o.1
  obtain⟨r2,c2,d2⟩:=zhN (h:=h) r o.2
  exact⟨.cons r1 r2,by simp only[List.map_cons,PyData.canLayAll0,c1,c2,Bool.and_self],by simp only[List.map_cons,PyData.depthAll,d1,d2]; rfl⟩
theorem reads1{h:Heap}{a:A1}{v:Value}(p:a.val h v)(o:a.ok=true):Reads h v a.d []/\a.d.canLay0=true/\a.d.depth<=1:=by
 cases a with
 | «at» a =>
  obtain⟨r,c,d⟩:=reads0 (h:=h) p o
  exact⟨r,c,by show a.d.depth<=1; lia⟩
 | tup l =>
  obtain⟨b,items,rfl,⟨ob,n,e,c,d⟩,r⟩:=p
  obtain⟨r1,c1,d1⟩:=zhN (h:=h) r o
  exact⟨.tuple e c d r1,by simpa only [A1.d,PyData.canLay0] using c1,by simp only[A1.d,PyData.depth,d1]; lia⟩
theorem zhM{h:Heap}:∀ {l:LK} {vs:List Value},Paired (A1.val h) l vs->l.all A1.ok=true->ReadsAll h vs (l.map A1.d) []/\PyData.canLayAll0 (l.map A1.d)=true/\PyData.depthAll (l.map A1.d)<=1
 | _,_,.nil,_=>⟨.nil,rfl,Nat.zero_le _⟩
 | x::l,_,.cons p r,o=>by
  rw[List.all_cons,Bool.and_eq_true]at o
  obtain⟨r1,c1,d1⟩:=reads1 (h:=h) p o.1
  obtain⟨r2,c2,d2⟩:=zhM (h:=h) r o.2
  exact⟨.cons r1 r2,by simp only[List.map_cons,PyData.canLayAll0,c1,c2,Bool.and_self],by simp only[List.map_cons,PyData.depthAll]; lia⟩
theorem readsLK{h:Heap}{k:LK}{a:Addr}(p:ziY h k a)(o:zhy k=true):Reads h (.ref a) (dLK k) []/\(dLK k).canLay0=true/\(dLK k).depth<=2:=by
 obtain⟨items,⟨ob,n,e,c,d⟩,r⟩:=p
 obtain⟨r1,c1,d1⟩:=zhM (h:=h) r o
 exact⟨.tuple e c d r1,by simpa only [dLK,PyData.canLay0] using c1,by simp only[dLK,PyData.depth]; lia⟩
theorem eqLK{x y:LK}{a b:Addr}{Q:Bool->Shared->Prop}(hu:A.units+4 < cLine)(hx:ziY s.heap x a)(hy:ziY s.heap y b)(ox:zhy x=true)(oy:zhy y=true)(h:Q (decide (x=y)) s) :
  wpAny (model prog w) A (eqBool (.ref a) (.ref b)) Q E s:=by
 obtain⟨r1,c1,d1⟩:=readsLK hx ox
 obtain⟨r2,c2,d2⟩:=readsLK hy oy
 refine SeqAt.eqBoolOverData prog w A E s _ _ _ _ _ _ Q r1 r2 c1 c2 (by lia) ?_
 show Q (PyData.eqvAll (x.map A1.d) (y.map A1.d)) s
 rw[eqvAll1]
 exact h
theorem zhO{n:Nat}{a:Addr}{items:Array Value}{Q:Bool->Shared->Prop}(ht:zcU s.heap a items)(hi:∀ v∈items.toList,∀ Q':Bool->Shared->Prop,Q' true s->wpAny (model prog w) A (eqIsQuiet n v) Q' E s)(h:Q true s) :
  wpAny (model prog w) A (eqIsQuiet (n+1) (.ref a)) Q E s:=by
 obtain⟨o,k,ho,hc,hd⟩:=ht
 have hT:s.TypeIs (.ref a) "tuple":=⟨o,ho,hc⟩
 unfold eqIsQuiet
 refine wB (wpAny_specialOf hT F.slot_tuple_eq.lookup ?_)
 show wpAny _ _ (isInstance (.ref a) (.type "tuple") >>= _) _ _ s
 refine wB (wpAny_isInstance hT isSubtype_tuple_tuple ?_)
 simp only[Bool.not_true,Bool.false_eq_true,if_false]
 refine wB (wpAny_seqItems ho hd ?_)
 refine wB ?_
 show wpAny _ _ (forIn items _ _) _ _ s
 rw[<- Array.forIn_toList]
 refine wpAny_forIn_list _ (λrest r s'=>r.1=none/\s'=s/\∀ v∈rest,v∈items.toList) _ ?_ ?_ _ _ ⟨rfl,rfl,λv hv=>hv⟩
 ·rintro v rest r s' ⟨hr,rfl,hall⟩
  refine wB (hi v (hall v List.mem_cons_self) _ ?_)
  simp only[Bool.not_true,Bool.false_eq_true,if_false]
  exact wQ ⟨rfl,rfl,λu hu'=>hall u (lMc _ hu')⟩
 ·rintro⟨r1,r2⟩ s' ⟨hr,rfl,_⟩
  simp only at hr
  subst hr
  exact wQ h
theorem quiet0{n:Nat}{a:A0}{v:Value}{Q:Bool->Shared->Prop}(p:a.val v)(h:Q true s):wpAny (model prog w) A (eqIsQuiet n v) Q E s:=by
 have hv:carriedByValue v=true:=by
  cases a with
  | non=>cases (show v=.none from p); rfl
  | int i=>obtain⟨t,e⟩:=p; subst e; rfl
  | str x=>obtain⟨t,e⟩:=p; subst e; rfl
 rw[eqIsQuiet_byValue _ hv]
 exact wQ h
theorem Paired.memR{α β:Type}{F:α->β->Prop}:∀ {l:List α} {r:List β} {v:β},Paired F l r->v∈r->∃ x,F x v
 | _,_,_,.nil,h=>by simp at h
 | _,_,_,.cons p q,h=>by
  rcases List.mem_cons.mp h with e | h
  ·subst e; exact⟨_,p⟩
  ·exact Paired.memR q h
theorem quiet1{n:Nat}{a:A1}{v:Value}{Q:Bool->Shared->Prop}(p:a.val s.heap v)(h:Q true s):wpAny (model prog w) A (eqIsQuiet (n+1) v) Q E s:=by
 cases a with
 | «at» a=>exact quiet0 p h
 | tup l =>
  obtain⟨b,items,rfl,t,r⟩:=p
  exact zhO t (λv hv Q' q=>by obtain⟨x,hx⟩:=Paired.memR r hv; exact quiet0 hx q) h
noncomputable def ze1(prog:Program)(w:World):HeapKind prog w LK where
 is:=λh k a=>ziY h k a/\zhy k=true
 hash:=λk=>tupH (k.map (zi0 w))
 draws:=λk=>(k.map zi3).sum+1
 room:=λA=>A.units+4 < cLine
 inj:=λx y=>x.1.inj y.1
 keeps:=λx ho hd hs=>⟨x.1.keeps ho hd hs,x.2⟩
 pyHash:=λhu hk h=>hashLK hu hk.1 h
 eqBool:=λhu hx hy h=>eqLK hu hx.1 hy.1 hx.2 hy.2 h
 quiet:=λhk h=>by
  obtain⟨⟨items,t,r⟩,_⟩:=hk
  exact zhO t (λv hv Q' q=>by obtain⟨x,hx⟩:=Paired.memR r hv; exact quiet1 hx q) h
end
noncomputable def ziI(P:Program)(w:World)(a:Addr)(xs:List (LK×Addr×Value))(h:Heap):Prop :=
 (a==sysModules)=false/\xs.length<=sizeLine/\(∀ x∈xs,zhy x.1=true)/\(xs.map (·.1)).Nodup/\∃ o es ep,h.get? a=some o/\o.ExactDict/\o.data=.dict es ep/\es.toList=xs.map (entryOfKey (ze1 P w))
theorem rawD_obj{P:Program}{w:World}{H:Hp}{h:Heap}{a:Addr}{xs:List (LK×Addr×Value)}(r:ziI P w a xs h):zbz P w H h a (.ext (ziI P w a xs)):=by
 obtain⟨h1,h2,h3,h4,o,es,ep,e,r⟩:=id r
 exact⟨⟨h1,h2,h3,h4,o,es,ep,e,r⟩,⟨o,e⟩,λg1 g2 hu k=>(by obtain⟨q1,q2,q3,q4,o',es',ep',e',r'⟩:=hu; exact⟨q1,q2,q3,q4,o',es',ep',k _ e',r'⟩)⟩
noncomputable def Raw(h:Heap)(d:Addr)(es:Array DictEntry)(ep:Nat):Prop:=∃ o,h.get? d=some o/\o.ExactDict/\o.data=.dict es ep
theorem Raw.ty{s:Shared}{d:Addr}{es:Array DictEntry}{ep:Nat}(r:Raw s.heap d es ep):s.TypeIs (.ref d) "dict":=let ⟨o,e,x,_⟩:=r; ⟨o,e,x.1⟩
theorem Raw.mv{h g:Heap}{d:Addr}{es:Array DictEntry}{ep:Nat}(r:Raw h d es ep)(k:∀ o,h.get? d=some o->g.get? d=some o):Raw g d es ep:=let ⟨o,e,x⟩:=r; ⟨o,k o e,x⟩
theorem Raw.lt{h:Heap}{d:Addr}{es:Array DictEntry}{ep:Nat}(r:Raw h d es ep):d < h.objs.size:=let ⟨_,e,_⟩:=r; hLz e
noncomputable abbrev kIt:String:="dict_keyiterator"
section
variable {prog:Program}{w:World}{A:Around}{E:Value->Shared->Prop}{s:Shared}{d it:Addr}{es:Array DictEntry}{ep i:Nat}
theorem zgZ{Q:Value->Shared->Prop}(nd:(d==sysModules)=false)(r:Raw s.heap d es ep)
  (q:Q (.ref s.heap.objs.size) { s with heap:=s.heap.push { cls:=.type kIt,data:=.fields #[.ref d,.int 0 0,.int es.size 0,.int ep 0] } }):wpAny (model prog w) A (pyIter (.ref d)) Q E s:=by
 obtain⟨o,e1,e2,e3⟩:=id r
 have ty:=r.ty
 refine wpAny_pyIter_slot ty F.slot_dict_iter (wpAny_call_entry F.slot_dict_iter ty F.entry_dict_iter ?body (F.args_dict_iter_1 _))
 unfold Builtin.«dict.__iter__» Builtin.Dict.dictSlotNone
 refine wB (wB (wpAny_notOrdered_dict ty (show wpAny _ _ (pure (Value.ref d)) _ _ s from wQ ?go)))
 change wpAny _ _ (Builtin.Dict.showsAll d >>= λ_=>_) _ _ s
 unfold Builtin.Dict.showsAll
 rw[nd,if_neg Bool.false_ne_true]
 exact wpAny_bind (wpAny_pure (wpAny_bind (wpAny_dictEntries e1 e3 (wpAny_bind (wpAny_dictEpoch e1 e3 (wpAny_bind (wpAny_newObj_type (wpAny_pure ⟨_,rfl,kIt,_,⟨_,Heap.get?_push_size _ rfl,rfl⟩,F.slot_dict_keyiterator_next.lookup,by simpa [rawInt] using q⟩))))))))
theorem zfj{Q:Option Value->Shared->Prop}(ki:s.heap.IsKeyIter it d i es.size ep)(r:Raw s.heap d es ep)
  (there:∀ h' v,es[i]?.map (·.key)=some v->h'.IsKeyIter it d (i+1) es.size ep->Heap.SameBut it s.heap h'->Q (some v) { s with heap:=h' })
  (out:es.size<=i->∀ h',Heap.ExtBut it s.heap h'->Q none { s with heap:=h' }) (hh:A.handled=none):wpAny (model prog w) A (pyNext (.ref it)) Q E s:=by
 obtain⟨oi,a1,a2,a3⟩:=id ki
 obtain⟨od,b1,b2,b3⟩:=id r
 have ty:=ki.typeIs
 unfold pyNext
 refine wpAny_bind (wpAny_attempt (wpAny_callSpecial?_slot (name:=Str.ofString "__next__") ty F.slot_dict_keyiterator_next (wpAny_call_entry F.slot_dict_keyiterator_next ty F.entry_dict_keyiterator_next ?body (F.args_dict_keyiterator_next_1 _))))
 refine wB (wQ (wB (wB ?_)))
 first | refine wB (wpAny_typeNameOfWhole_keyiter ty (wQ ?_)) | refine wB (wpAny_typeNameOf_keyiter ty (wQ ?_))
 refine wB (wpAny_fieldsOf a1 a3 ?_)
 rw[show Builtin.Dict_items.ownsTuple kIt=false by decide,if_neg Bool.false_ne_true]
 change wpAny _ _ (if (Value.ref d==Value.none)=true then _ else _) _ _ s
 rw[if_neg (show ¬ ((Value.ref d==Value.none)=true)from Bool.false_ne_true)]
 refine wB (wQ (wB (wpAny_dictEntries b1 b3 ?_)))
 rw[if_neg (by simp)]
 refine wB (wQ (wB (wpAny_dictEpoch b1 b3 ?_)))
 rw[if_neg (by simp)]
 refine wQ ?_
 have ni:¬ ((i:Int) < 0):=by lia
 by_cases lt:i < es.size
 ·simp only[ni,if_false,Int.toNat_natCast,Array.getElem?_eq_getElem lt]
  refine wB ?_
  first | refine wB (wpAny_typeNameOfWhole_keyiter ty (wQ ?_)) | refine wB (wpAny_typeNameOf_keyiter ty (wQ ?_))
  refine wB (wpAny_isOneOf_keyiter ty ?_)
  change wpAny _ _ (setField (.ref it) 1 (rawInt ((i:Int)+1)) >>= λ_=>_) _ _ s
  refine wpAny_bind (wpAny_setField a1 a3 (by simp) ?_)
  have ki':(s.heap.update it (Obj.mapFields (·.setIfInBounds 1 (rawInt ((i:Int)+1))))).IsKeyIter it d (i+1) es.size ep:=by
   refine⟨_,Heap.get?_update_self _ a1 (Obj.isFreed_of_fields (Obj.data_mapFields a3 _)),(Obj.cls_mapFields ..).trans a2,?_⟩
   rw[Obj.data_mapFields a3]; simp[rawInt]
  refine wB (wpAny_holding (wB (wpAny_isOneOf_keyiter (s:={ s with heap:=s.heap.update it (Obj.mapFields (·.setIfInBounds 1 (rawInt ((i:Int)+1)))) }) ki'.typeIs ?_)))
  change wpAny _ _ (pure es[i].key) _ _ _
  exact wpAny_pure (wpAny_pure ⟨_,rfl,wpAny_pure (there _ _ (by simp[lt]) ki' (Heap.SameBut.update ..))⟩)
 ·have ge:es.size<=i:=by lia
  simp only[ni,if_false,Int.toNat_natCast,Array.getElem?_eq_none ge]
  refine wB ?_
  first | refine wB (wpAny_typeNameOfWhole_keyiter ty (wQ ?_)) | refine wB (wpAny_typeNameOf_keyiter ty (wQ ?_))
  change wpAny _ _ (setField (.ref it) 0 .none >>= λ_=>_) _ _ s
  refine wpAny_bind (wpAny_setField a1 a3 (by simp) ?_)
  change wpAny _ _ (newExc (.type "StopIteration") [] >>= λ_=>_) _ _ _
  simp only[newExc,newTuple,raiseNew]
  refine wpAny_bind (wpAny_bind (wpAny_newObj_type (wpAny_bind (m:=firstArgMember _ _) (wpAny_of_eq (a:=Value.none) (by first | rfl | (simp only[firstArgMember]; rfl)) (wpAny_newObj_type ?_ (by size_fits)))) (by size_fits)))
  refine wB (wpAny_handled ?_)
  rw[show A.in1.handled=none from hh]
  refine wB (wQ (wpAny_throw ?_))
  refine wpAny_bind (wpAny_isInstance (T:="StopIteration") (b:=true) ⟨_,Heap.get?_push_size _ rfl,rfl⟩ isSubtype_stop ?fin)
  exact wQ (out ge _ (((Heap.SameBut.update ..).extBut.push _).push _))
theorem raw_walks(hh:A.handled=none)(I d:Addr)(ne:d≠I)(es:Array DictEntry)(ep:Nat) :
  Walks prog w A I [I,d] [I] es.size (λi v=>es[i]?.map (·.key)=some v) (λi h=>h.IsKeyIter I d i es.size ep/\Raw h d es ep) where
 sub:=λb hb=>by rcases List.mem_singleton.mp hb with rfl; exact List.mem_cons_self
 frame:=λ_ _ _ st k=>⟨st.1.at λo e=>k I List.mem_cons_self o e,st.2.mv λo e=>k d (lMc _ List.mem_cons_self) o e⟩
 item:=λi s Q E lt st q=>zfj st.1 st.2 (λh' v ev ki sb=>q v h' s.toks ev ⟨ki,st.2.mv λo e=>(sb.2 d ne).trans e⟩ λb o nb e=>(sb.2 b λz=>nb (by rw[z]; exact List.mem_cons_self)).trans e) (λge=>absurd lt (by lia)) hh
 done:=λs Q E st q=>zfj st.1 st.2 (λh' v ev=>by rw[Array.getElem?_eq_none (Nat.le_refl _)]at ev; cases ev) (λ_ h' x=>q h' s.toks λb o nb e=>x b o (λz=>nb (by rw[z]; exact List.mem_cons_self)) e) hh
 self:=λ_ _ _ _ st q=>wpAny_pyIter_keyiter st.1 q
theorem raw_src(nd:(d==sysModules)=false):W.KdlSrc prog w "dict" d d es.size (λi v=>es[i]?.map (·.key)=some v) (λh=>Raw h d es ep) where
 type:=λ_ r=>r.ty
 there:=λ_ r=>⟨r.lt,r.lt⟩
 keep:=λ_ _ r k=>r.mv λo e=>k d (.inl rfl) o e
 notList:=by decide
 notTuple:=by decide
 hint:=λ_ _ _ _ r q=>W.kdl_hint_dict r.ty q
 iter:=λ_ s hh r=>⟨_,_,(λ_ _ q=>zgZ nd r q),raw_walks hh _ d (nNl r.lt) es ep,⟨⟨_,hPz _ rfl,rfl,rfl⟩,r.mv λo e=>hPs _ e⟩⟩
theorem zfr{T:String}{r:Addr}{n:Nat}{P:Nat->Value->Prop}{OK:Heap->Prop}{Q:List Value->Shared->Prop}(K:W.KdlSrc prog w T r d n P OK)(hh:A.handled=none)(ok:OK s.heap)(hn:n<=sizeLine)
  (q:∀ h' tk acc,(∀ b o,s.heap.get? b=some o->h'.get? b=some o)->ItemsOf P acc n->Q acc.toList { s with heap:=h',toks:=tk }):wpAny (model prog w) A (collect (.ref r)) Q E s:=by
 have key:∀ R:Result->Shared->Prop,(∀ h' tk acc c,(∀ b o,s.heap.get? b=some o->h'.get? b=some o)->h'.get? s.heap.objs.size=some { cls:=.type "list",dict:=none,data:=.seq acc c,slots:=#[] }->ItemsOf P acc n->R (.ok (.ret (.ref s.heap.objs.size))) { s with heap:=h',toks:=tk }) ->
   codeAny (model prog w) A (.builtin "proto.collect" ⟨[.ref r],[]⟩) R s:=by
  intro R hR
  refine codeAny_builtin F.entry_proto_collect ?_
  rw[Around.under_plainId F.plain_proto_collect _]
  change wpAny _ A.in1 (newList [] >>= λl=>again (.builtin "list.__iadd__" ⟨[l,.ref r],[]⟩)) _ _ s
  refine wB (wpAny_newObj_type (wQ ⟨plainId_quiet F.plain_list_iadd _,codeAny_builtin F.entry_list_iadd ?_⟩))
  rw[Around.under_plainId F.plain_list_iadd _]
  change wpAny _ A.in1 (Builtin.List.listExtendWith (.ref s.heap.objs.size) (.ref r) (.ref s.heap.objs.size)) _ _ _
  have lt:=K.there _ ok
  exact W.kdl_extend (R:=R) (s:={ s with heap:=s.heap.push { cls:=.type "list",data:=.seq ([]:List Value).toArray } }) K hh (K.keep _ _ ok λb _ o e=>Heap.get?_push_of_some _ e) s.heap.objs.size (Nat.ne_of_gt lt.1) (Nat.ne_of_gt lt.2) (.ref s.heap.objs.size) 0 (Heap.get?_push_size _ rfl)
   (λh' tk acc c k e items=>hR h' tk acc c (λb o x=>k b o (nNl (hLz x)) (hPs _ x)) e items) hn
 unfold collect
 refine wB (wpAny_runValue (key _ λh' tk acc c k e items=>?_))
 change wpAny _ A (load s.heap.objs.size >>= λ_=>_) _ _ _
 refine wB (wpAny_load e (wQ ?_))
 exact q h' tk acc k items
theorem src_tuple{T:String}{r:Addr}{n:Nat}{P:Nat->Value->Prop}{OK:Heap->Prop}(K:W.KdlSrc prog w T r d n P OK)(hn:n<=sizeLine) :
  MeetsIn prog w (Builtin.«tuple.__new__» ⟨[.type "tuple",.ref r],[]⟩) (λA R s=>A.handled=none/\OK s.heap/\∀ (h':Heap) (tk:Nat) (acc:Array Value),(∀ b o,s.heap.get? b=some o->h'.get? b=some o)->ItemsOf P acc n ->
   R (.ok (.ret (.ref h'.objs.size))) { s with heap:=h'.push { cls:=.type "tuple",data:=.seq acc },toks:=tk }) :=
 .of_wp λA R s hu=>by
  obtain⟨hh,ok,q⟩:=hu
  have f1:=sub_tuple_self
  have f2:=init_tuple_lookup
  have f3:=madeHere_tuple
  have ty:=K.type s ok
  have nt:=K.notTuple
  have hh1:A.in1.handled=none:=hh
  wp_walk using wpAny_typeOf ty,zfr (A:=A.in1) K hh1 ok hn
  intro h' tk acc k items
  change wpAny _ _ (Builtin.Tuple.tupleExact acc.toList.toArray >>= λv=>ret v) _ _ _
  unfold Builtin.Tuple.tupleExact
  rw[Array.toArray_toList]
  exact wpAny_bind (wpAny_newObj_type (wpAny_pure ⟨_,rfl,q h' tk acc k items⟩) (show acc.size<=sizeLine by rw[items.1]; exact hn))
end
section
variable {X:Cx}{pins:List (Addr×Obj)}{σ:St}{H:Hp}{s:Shared}{p:Addr}
theorem tupD{Q:VK}{es:Array DictEntry}{ep:Nat}{ks:List V}(hc:X.calm=true)(I:Inv X pins σ H s)(nd:(p==sysModules)=false)(r:Raw s.heap p es ep)(rk:zaM ks (es.toList.map (·.key)))(hn:es.size<=sizeLine)
  (q:∀ l,H l=none->Q (.ref l) (upd H l (.tup ks))):wpAny (model X.prog X.w) X.A (call (.type "tuple") [.ref p]) (EP X pins σ Q) X.xe s:=by
 refine callType_newIn F.called_tuple (by decide) (F.typeCall_tuple_1 _) (F.newCall_tuple_1 _) (λobj=>F.args_object_init_2 obj _) F.entry_tuple_new (src_tuple (raw_src (ep:=ep) nd) hn) ⟨I.ok.hd hc,r,λh' tk acc k items=>⟨⟨_,hPz _ rfl,rfl⟩,?_⟩⟩
 have I1:Inv X pins σ H { s with heap:=h',toks:=tk }:=I.kept k
 have el:acc.toList=es.toList.map (·.key):=by
  refine List.ext_getElem? λj=>?_
  rw[Array.getElem?_toList,List.getElem?_map,Array.getElem?_toList]
  cases e:acc[j]? with
  | some v=>exact(items.2 j v e).symm
  | none =>
   have:acc.size<=j:=by simpa using e
   rw[items.1]at this
   rw[Array.getElem?_eq_none this]; rfl
 have hf:H h'.objs.size=none:=I1.hok.fresh (nLr _)
 refine⟨.ref h'.objs.size,upd H h'.objs.size (.tup ks),I1.laid (o:=.tup ks) (λb o e=>Heap.get?_push_of_some _ e) (Nat.le_refl _) ⟨?_,acc.toList,by rw[el]; exact rk,⟨_,Heap.get?_push_size _ rfl,rfl,0,by simp⟩⟩,rfl,q _ hf⟩
 rw[rk.length,List.length_map,Array.length_toList]
 exact hn
end
noncomputable def clOf(env:Env):List (Str×NameKind)->List (Str×Addr)->List (Str×Addr)
 | [],cs=>cs
 | (n,k)::r,cs=>clOf env r (if k==.free then (n,(env.cells.lookup n).getD 0)::cs else cs)
theorem zjP{env:Env}:∀ {names:List (Str×NameKind)} {cs:List (Str×Addr)} {p:Str×Addr},p∈clOf env names cs->p∈cs∨((p.1,NameKind.free)∈names/\p.2=(env.cells.lookup p.1).getD 0)
 | [],cs,p,h=>.inl h
 | (n,k)::r,cs,p,h=>by
  unfold clOf at h
  rcases zjP h with h | ⟨h,e⟩
  ·by_cases hk:(k==NameKind.free)=true
   ·rw[if_pos hk]at h
    rcases List.mem_cons.mp h with h | h
    ·subst h
     have:k=.free:=by simpa using hk
     subst this
     exact .inr ⟨List.mem_cons_self,rfl⟩
    ·exact .inl h
   ·rw[if_neg hk]at h; exact .inl h
  ·exact .inr ⟨lMc _ h,e⟩
theorem zjQ{env:Env}{n:Str}:∀ {names:List (Str×NameKind)} {cs:List (Str×Addr)},((n,NameKind.free)∈names∨∃ a,(n,a)∈cs)->∃ a,(n,a)∈clOf env names cs
 | [],cs,h=>by
  rcases h with h | h
  ·simp at h
  ·exact h
 | (m,k)::r,cs,h=>by
  unfold clOf
  refine zjQ ?_
  rcases h with h | ⟨a,h⟩
  ·rcases List.mem_cons.mp h with h | h
   ·cases h
    exact .inr ⟨_,by rw[if_pos (by rfl)]; exact List.mem_cons_self⟩
   ·exact .inl h
  ·refine .inr ⟨a,?_⟩
   split
   ·exact lMc _ h
   ·exact h
theorem clos_eq{env:Env}{scope:Scope}(h:∀ x∈scope.names,x.2=.free->∃ c,env.cells.lookup x.1=some c):closureFor scope env=pure (clOf env scope.names []):=by
 simp only[closureFor]
 generalize ([]:List (Str×Addr))=cs
 revert h
 generalize scope.names=names
 intro h
 induction names generalizing cs with
 | nil=>rfl
 | cons x r ih =>
  obtain⟨n,k⟩:=x
  rw[List.forIn_cons]
  have hr:=λcs=>ih cs (λy hy=>h y (lMc _ hy))
  by_cases hk:(k==NameKind.free)=true
  ·have hk':k=.free:=by simpa using hk
   obtain⟨c,hc⟩:=h (n,k) List.mem_cons_self hk'
   simp only at hc
   have e1:cellOf env n=pure c:=by unfold cellOf; rw[hc]
   simp only[hk,if_true,e1]
   unfold clOf
   rw[if_pos hk,hc]
   exact hr ((n,c)::cs)
  ·simp only[hk,if_false]
   unfold clOf
   rw[if_neg hk]
   exact hr cs
theorem zfG(F:Str->NameKind->NameKind):∀ (names:List (Str×NameKind)) (x:Str),(names.map λp=>(p.1,F p.1 p.2)).lookup x=(names.lookup x).map (F x)
 | [],_=>rfl
 | (n,k)::r,x=>by
  rw[List.map_cons,List.lookup_cons,List.lookup_cons]
  cases hx:x==n with
  | true =>
   have e:x=n:=by simpa using hx
   subst e
   rfl
  | false=>exact zfG F r x
theorem zgl{env:Env}{names:List (Str×NameKind)}{x:Str} :
  (names.map λ(n,k)=>if (k==NameKind.free&&env.scope.kind==.function&&env.kindOf n==some .cell)then (n,NameKind.cell)else (n,k)).lookup x =
   (names.lookup x).map λk=>if (k==NameKind.free&&env.scope.kind==.function&&env.kindOf x==some .cell)then NameKind.cell else k:=by
 rw[<- zfG (λn k=>if (k==NameKind.free&&env.scope.kind==.function&&env.kindOf n==some .cell)=true then NameKind.cell else k)]
 congr 1
 refine List.map_congr_left λp _=>?_
 obtain⟨n,k⟩:=p
 dsimp only
 split<;>rfl
section
variable {prog:Program}{w:World}{A:Around}{R:Result->Shared->Prop}{s:Shared}
theorem zif{elt target iter:Expr}{ifs:List Expr}{scope:Scope}{pos:Pos}{it acc:Value}{env:Env}(I:Nat->Shared->Prop)
  (turn:∀ n s,I n s->wpAny (model prog w) A (pyNext it) (λr s₁=>match r with
   | none=>R (.ok .next) s₁
   | some v=>wpAny (model prog w) A (letOwnedTupleGo target it v) (λ_ s₀=>wpAny (model prog w) A (assign target env v) (λ_ s₂ =>
     wpAny (model prog w) A (forIn ifs true λc r=>if r=true then do let ok <- isTrue c env (eval c env); pure (ForInStep.yield ok)else pure (ForInStep.yield r)) (λok s₃ =>
      if ok=true then wpAny (model prog w) A (eval elt env) (λx s₄ =>
       wpAny (model prog w) A (call (.builtin "list.append") [acc,x]) (λ_ s₅=>∃ m,m < n/\I m s₅) (λ_ _=>False) s₄) (λ_ _=>False) s₃
      else ∃ m,m < n/\I m s₃) (λ_ _=>False) s₂) (λ_ _=>False) s₀) (λ_ _=>False) s₁) (λ_ _=>False) s)
  (n:Nat) (h:I n s):codeAny (model prog w) A (.compLoop (.ListComp elt [⟨target,iter,ifs,0⟩] scope pos) 0 it acc env) R s:=by
 refine codeAny_loop rfl I (λn s hI=>?_) n h
 show wpAny _ A ((compTurn (.ListComp elt [⟨target,iter,ifs,0⟩] scope pos) 0 it acc env).onRaise (λx=>do noteFrame x env; theTreesLotGoes x)) _ _ s
 refine wpAny_noted ?_
 rw[compTurn_list]
 refine wB (wpAny_standAt (wB (wpAny_mono (turn n s hI) (λr s₁ h₁=>?_) λ_ _ f=>f.elim)))
 cases r with
 | none=>exact wQ h₁
 | some v =>
  refine wB (wpAny_mono h₁ (λ_ s₀ h₀=>?_) λ_ _ f=>f.elim)
  refine wB (wpAny_mono h₀ (λ_ s₂ h₂=>wB (wpAny_mono h₂ (λok s₃ h₃=>?_) λ_ _ f=>f.elim)) λ_ _ f=>f.elim)
  cases ok with
  | false=>exact wQ ⟨rfl,h₃⟩
  | true =>
   exact wB (wB (wpAny_mono h₃ (λx s₄ h₄=>wB (wpAny_mono h₄ (λ_ s₅ h₅=>wQ (wQ ⟨rfl,h₅⟩)) λ_ _ f=>f.elim)) λ_ _ f=>f.elim))
end
noncomputable def blk(X:Cx)(scope:Scope)(N:List Str)(fp:List Addr)(s:Shared)(H:Hp)(C:Addr):Cx :=
 { X with env:=compEnvC scope (clOf X.env scope.names []) C X.env,N:=N,s₀:=s,H₀:=H,outer:=X.stack,stack:=X.stack,ex:=fp,fn:=λ_=>false,pn:=X.pn,xe:=λ_ _=>False }
noncomputable def visS(sel:List (Option Nat))(σ:St):St:=sel.map λo=>o.bind λj=>(σ[j]?).join
structure BlkOk(X:Cx)(scope:Scope)(N:List Str)(sel:List (Option Nat)):Prop where
 kind:scope.kind=.function
 names:∀ x∈scope.names,x.2=.local->scope.names.lookup x.1=some .local
 nocell:∀ x∈scope.names,x.2≠.cell
 fr:∀ x∈scope.names,x.2=.free->(X.env.kindOf x.1=some .cell∨X.env.kindOf x.1=some .free)
 len:sel.length=N.length
 sel:∀ (i j:Nat) (x:Str),sel[i]?=some (some j)->N[i]?=some x->X.N[j]?=some x/\scope.names.lookup x=some .free
theorem zhs{X:Cx}{scope:Scope}{N:List Str}{fp:List Addr}{s:Shared}{H:Hp}{C:Addr}(x:Str) :
  (blk X scope N fp s H C).env.kindOf x=(scope.names.lookup x).map λk=>if (k==NameKind.free&&X.env.scope.kind==.function&&X.env.kindOf x==some .cell)then NameKind.cell else k:=zgl
section
variable {X:Cx}{scope:Scope}{N:List Str}{sel:List (Option Nat)}{fp:List Addr}{pins:List (Addr×Obj)}{σ:St}{H:Hp}{s:Shared}{C:Addr}
theorem BlkOk.cl1(B:BlkOk X scope N sel)(ok:X.Ok){x:Str}{c:Addr}(h:(clOf X.env scope.names []).lookup x=some c):X.env.cells.lookup x=some c:=by
 rcases zjP (PySem.mem_of_lookup h)with h | ⟨h,e⟩
 ·simp at h
 ·obtain⟨c',hc⟩:=ok.has x (B.fr _ h rfl)
  simp only at e
  rw[hc]at e
  simp only[Option.getD_some]at e
  rw[e]; exact hc
theorem BlkOk.cl2(B:BlkOk X scope N sel)(ok:X.Ok){x:Str}(h:scope.names.lookup x=some .free):∃ c,(clOf X.env scope.names []).lookup x=some c:=by
 obtain⟨a,ha⟩:=zjQ (env:=X.env) (n:=x) (names:=scope.names) (cs:=[]) (.inl (PySem.mem_of_lookup h))
 cases e:(clOf X.env scope.names []).lookup x with
 | some c=>exact⟨c,rfl⟩
 | none =>
  have:=List.lookup_eq_none_iff.mp e (x,a) ha
  simp at this
theorem BlkOk.free_of(B:BlkOk X scope N sel){x:Str}(h:(blk X scope N fp s H C).env.kindOf x=some .cell∨(blk X scope N fp s H C).env.kindOf x=some .free):scope.names.lookup x=some .free:=by
 rw[zhs]at h
 cases e:scope.names.lookup x with
 | none=>rw[e]at h; simp at h
 | some k =>
  rw[e]at h
  have hm:=PySem.mem_of_lookup e
  have nc:=B.nocell _ hm
  cases k<;>simp at h nc ⊢
theorem blk_ok(B:BlkOk X scope N sel)(I:Inv X pins σ H s)(hf:∀ b∈fp,FpOk X pins H b)(ho:∀ b∈fp,b < s.heap.objs.size)(hC:s.heap.objs.size<=C):(blk X scope N fp s H C).Ok where
 mod:=I.ok.mod
 kind:=B.kind
 glob:=I.ok.glob
 blt:=I.ok.blt
 above:=hC
 inj:=λx y c h1 h2=>I.ok.inj x y c (B.cl1 I.ok h1) (B.cl1 I.ok h2)
 has:=λx h=>B.cl2 I.ok (B.free_of h)
 cab:=λx c h=>nomatch h
 hd:=I.ok.hd
 frames:=I.ok.frames
 stk:=.inl rfl
 exf:=λb hb=>⟨nNl (nLl (ho b hb) hC),λx c h=>(hf b hb).2.2.2.2.1 x c (B.cl1 I.ok h)⟩
 bs:=λb o e=>I.bs b o e
 bsz:=Nat.le_trans I.ok.bsz I.sz
 noex:=λb o e hb=>by
  rcases (hf b hb).2.2.2.1 with z | z
  ·exact I.ok.noex b o e z
  ·have:=hLz e
   exact absurd (nLl this (Nat.le_trans I.ok.bsz z)) (Nat.lt_irrefl _)
 exfs:=λb hb hm=>by
  rcases List.mem_cons.mp (I.stkSub b hm)with e | e
  ·exact(hf b hb).2.1 e
  ·exact(hf b hb).2.2.1 e
 funs:=I.stack
 frf:=λb hb=>I.stkFree b hb
theorem blk_start(B:BlkOk X scope N sel)(I:Inv X pins σ H s)(hf:∀ b∈fp,FpOk X pins H b)(ho:∀ b∈fp,b < s.heap.objs.size)(hC:s.heap.objs.size<=C){h':Heap}{m:Str->Option Value}{tk:Nat}
  (hn:h'.Ns C m) (k:∀ b o,s.heap.get? b=some o->h'.get? b=some o):Inv (blk X scope N fp s H C) pins (visS sel σ) H { s with heap:=h',toks:=tk } where
 ok:=blk_ok B I hf ho hC
 os:=rfl
 bare:=I.bare
 base:=Un.kept k
 loc:=⟨m,hn,λi x v h1 h2 h3=>by
  unfold visS at h2
  rw[List.getElem?_map]at h2
  cases e:sel[i]? with
  | none=>rw[e]at h2; cases h2
  | some o =>
   rw[e]at h2
   cases o with
   | none=>cases h2
   | some j =>
    have h2':(σ[j]?).join=some v:=by simpa using h2
    have h2'':σ[j]?=some (some v):=by
     cases q:σ[j]? with
     | none=>rw[q]at h2'; cases h2'
     | some z=>rw[q]at h2'; simp at h2'; rw[h2']
    obtain⟨hj,hfr⟩:=B.sel i j x e h1
    obtain⟨m0,hn0,hl⟩:=I.loc
    have kx:=B.fr _ (PySem.mem_of_lookup hfr) rfl
    obtain⟨u,r,l⟩:=hl j x v hj h2'' (by rcases kx with z | z; exact .inr (.inl z); exact .inr (.inr z))
    refine⟨u,r,.inr ⟨?_,?_⟩⟩
    ·rw[zhs,hfr]
     simp only[Option.map_some]
     split
     ·exact .inl rfl
     ·exact .inr rfl
    ·rcases l with ⟨z,_⟩ | ⟨_,c,hc,hcell⟩
     ·simp only at kx; rw[z]at kx; rcases kx with q | q<;>cases q
     ·obtain⟨c',hc'⟩:=B.cl2 I.ok hfr
      have:=B.cl1 I.ok hc'
      rw[hc]at this
      cases this
      obtain⟨o,ho,hd⟩:=hcell
      exact⟨c,hc',o,k c o ho,hd⟩⟩
 cell:=λx c h=>by
  obtain⟨v,o,ho,hd⟩:=I.cell x c (B.cl1 I.ok h)
  exact⟨v,o,k c o ho,hd⟩
 free:=I.hok.fresh hC
 freeC:=λx c h=>I.freeC x c (B.cl1 I.ok h)
 pin:=λp hp=>by
  obtain⟨e,n,ne,nf,d⟩:=I.pin p hp
  refine⟨k p.1 p.2 e,n,nNl (nLl (hLz e) hC),λhm=>?_,d⟩
  rcases List.mem_cons.mp (I.stkSub p.1 hm)with z | z
  ·exact ne z
  ·exact nf z
 hok:=I.hok.kept k
 len:=by unfold visS; rw[List.length_map]; exact B.len
end
noncomputable def tComp(sel:List (Option Nat))(wi:TI)(g:TG)(tc:TT)(te:TE):TE:=λσ H Q=>wi σ H λJ H1=>∃ W:Nat->Nat->List V->Hp->Prop,(∃ m,W 0 m [] H1)/\∀ i m acc H,W i m acc H->acc.length < sizeLine /\
 ((J.stop i H/\∀ d,H d=none->Q (.ref d) (upd H d (.lst acc))) ∨
  (J.go i H/\∀ x H',J.yld i H x H'->g x (visS sel σ) H' λσ2 H2=>tc σ2 H2 λb H3=>if b=true then te σ2 H3 λy H4=>∃ m',m' < m/\W (i+1) m' (acc++[y]) H4 else ∃ m',m' < m/\W (i+1) m' acc H3))
section
variable {X:Cx}{scope:Scope}{N:List Str}{sel:List (Option Nat)}{fp:List Addr}{pins pins':List (Addr×Obj)}{σ σ':St}{H H':Hp}{s s':Shared}{C:Addr}
theorem blk_again(B:BlkOk X scope N sel)(I:Inv X pins σ H s)(hf:∀ b∈fp,FpOk X pins H b)(hC:s.heap.objs.size<=C)(J:Inv (blk X scope N fp s H C) pins' σ' H' s'):Inv (blk X scope N fp s H C) pins' (visS sel σ) H' s':=by
 refine⟨J.ok,J.os,J.bare,J.base,?_,J.cell,J.free,J.freeC,J.pin,J.hok,by unfold visS; rw[List.length_map]; exact B.len⟩
 obtain⟨m,hn,_⟩:=J.loc
 refine⟨m,hn,λi x v h1 h2 h3=>?_⟩
 unfold visS at h2
 rw[List.getElem?_map]at h2
 cases e:sel[i]? with
 | none=>rw[e]at h2; cases h2
 | some o =>
  rw[e]at h2
  cases o with
  | none=>cases h2
  | some j =>
   have h2':(σ[j]?).join=some v:=by simpa using h2
   have h2'':σ[j]?=some (some v):=by
    cases q:σ[j]? with
    | none=>rw[q]at h2'; cases h2'
    | some z=>rw[q]at h2'; simp at h2'; rw[h2']
   obtain⟨hj,hfr⟩:=B.sel i j x e h1
   obtain⟨m0,hn0,hl⟩:=I.loc
   have kx:=B.fr _ (PySem.mem_of_lookup hfr) rfl
   obtain⟨u,r,l⟩:=hl j x v hj h2'' (by rcases kx with z | z; exact .inr (.inl z); exact .inr (.inr z))
   refine⟨u,r,.inr ⟨?_,?_⟩⟩
   ·rw[zhs,hfr]
    simp only[Option.map_some]
    split
    ·exact .inl rfl
    ·exact .inr rfl
   ·rcases l with ⟨z,_⟩ | ⟨_,c,hc,hcell⟩
    ·simp only at kx; rw[z]at kx; rcases kx with q | q<;>cases q
    ·obtain⟨c',hc'⟩:=B.cl2 I.ok hfr
     have:=B.cl1 I.ok hc'
     rw[hc]at this
     cases this
     obtain⟨o,ho,hd⟩:=hcell
     obtain⟨sl,e2⟩:=J.base.any ho (I.freeC x c hc) (λhm=>(hf c hm).2.2.2.2.1 x c hc rfl)
     exact⟨c,hc',_,e2,hd⟩
end
noncomputable def PIfs(X:Cx)(ifs:List Expr)(t:TT):Prop :=
 ∀ (pins:List (Addr×Obj)) (s:Shared) (σ:St) (H:Hp) (Q:Bool->Hp->Prop),Inv X pins σ H s->t σ H Q ->
  wpAny (model X.prog X.w) X.A (forIn ifs true λc r=>if r=true then do let ok <- isTrue c X.env (eval c X.env); pure (ForInStep.yield ok)else pure (ForInStep.yield r)) (TP X pins σ Q) X.xe s
theorem pifs_nil{X:Cx}:PIfs X [] (λσ H Q=>Q true H):=λ_ _ σ H _ I h=>wpAny_tests_nil ⟨H,I,h⟩
theorem pifs_one{X:Cx}{c:Expr}{t:TT}(hc:PT X c t):PIfs X [c] t:=λpins s σ H Q I h=>wpAny_tests_one (hc pins s σ H Q I h)
section
variable {X:Cx}{scope:Scope}{N:List Str}{sel:List (Option Nat)}{elt target iter:Expr}{ifs:List Expr}{wi:TI}{g:TG}{tc:TT}{te:TE}{pos:Pos}
theorem zie{use:Option (Value->Sem Unit)}{Q':Value->Shared->Prop}{fpos:Pos}(hc:X.calm=true)(B:BlkOk X scope N sel)(hi:PI X target iter wi)
  (hg:∀ fp s H C,PG (blk X scope N fp s H C) target g) (ht:∀ fp s H C,PIfs (blk X scope N fp s H C) ifs tc) (he:∀ fp s H C,PE (blk X scope N fp s H C) elt te)
  (hs:∀ x,foldedSetIterable iter X.env x=pure x) {pins:List (Addr×Obj)} {s:Shared} {σ:St} {H:Hp} {Q:VK} (I:Inv X pins σ H s) (h:tComp sel wi g tc te σ H Q)
  (fin':∀ (D C:Addr) (oC:Obj) (m:Str->Option Value) (H4:Hp) (s4:Shared),Inv X (pins++[(C,oC)]) σ H4 s4->s4.heap.Ns C m->(X.s₀.heap.objs.size<=C/\C≠X.env.locals/\(∀ x c,X.env.cells.lookup x=some c->c≠C)/\(∀ p∈X.pn++pins,p.1≠C)/\H4 C=none)->Q (.ref D) H4->compPost (model X.prog X.w) X.A X.xe use Q' (.ref D) C (.ok .next) s4) :
  wpAny (model X.prog X.w) X.A (comprehension (.ListComp elt [⟨target,iter,ifs,0⟩] scope pos) scope X.env fpos (newList []) false (eval iter X.env) use) Q' X.xe s:=by
 refine wpAny_comprehension_free (use:=use) rfl hs (clos_eq λx hx hk=>I.ok.has x.1 (B.fr x hx hk)) B.kind B.names (thn (hi pins s σ H _ I h) λv s1 h1=>thn h1 λitv s2 h2=>?_)
 obtain⟨it,fp,tn,J,H2,e,I2,T,st2,f2,W,⟨m0,w0⟩,turn⟩:=h2
 subst e
 refine wpAny_newObj_type (wpAny_newFunctionEnv B.nocell (by intro y hy; simp at hy) (λh₁ hns₁ hsb₁=>?_) B.kind)
 dsimp only at hns₁ hsb₁ ⊢
 generalize hH2:s2.heap.push { cls:=.type "list",dict:=none,data:=.seq ([]:List Value).toArray }=HP at hns₁ hsb₁ ⊢
 have hCs:HP.objs.size=s2.heap.objs.size+1:=by rw[<- hH2,Heap.size_push]
 generalize hCe:HP.objs.size=C at hns₁ hsb₁ hCs ⊢
 generalize hDe:s2.heap.objs.size=D at hCs ⊢
 have hDC:D≠C:=by lia
 have hCle:s2.heap.objs.size<=C:=by lia
 have k2:∀ b o,s2.heap.get? b=some o->h₁.get? b=some o:=λb o e=>hsb₁.extBut b o (nNl (nLl (hLz e) hCle)) (hPs _ (hH2 ▸ hPs _ e))
 have hacc:h₁.PlainList D #[]:=⟨_,hsb₁.extBut _ _ hDC (hPs _ (hH2 ▸ hDe ▸ hPz _ rfl))⟩
 have ofp:∀ b∈fp,b < s2.heap.objs.size:=λb hb=>by obtain⟨o,e,_⟩:=T.obj _ _ st2 b hb; exact hLz e
 have I3:=blk_start (tk:=s2.toks+([]:List (Str×Value)).length) B I2 f2 ofp hCle hns₁ k2
 have stat:∀ {H':Hp} {o:Obj},(∀ b∈fp,H' b=none)->∀ b∈fp,FpOk (blk X scope N fp s2 H2 C) (pins++[(D,o)]) H' b:=λ{H' o} hn b hb=>by
  obtain⟨_,f1,f2',f3,f4,f5⟩:=f2 b hb
  have hlt:=ofp b hb
  refine⟨hn b hb,nNl (nLl hlt hCle),λhm=>?_,.inl hb,λx c hx=>f4 x c (B.cl1 I2.ok hx),λp hp=>?_⟩
  ·rcases List.mem_cons.mp (I2.stkSub b hm)with e | e
   ·exact f1 e
   ·exact f2' e
  ·rcases List.mem_append.mp hp with z | z
   ·exact f5 p (List.mem_append_left _ z)
   ·rcases List.mem_append.mp z with z | z
    ·exact f5 p (List.mem_append_right _ z)
    ·have e:p=(D,o):=by simpa using z
     subst e
     exact Ne.symm (nNl (hDe ▸ hlt))
 have pinD:∀ {σ':St} {H':Hp} {s':Shared} {ps:List (Addr×Obj)} {o:Obj},Inv (blk X scope N fp s2 H2 C) ps σ' H' s'->(∀ p∈pins,p∈ps)->s'.heap.get? D=some o->H' D=none->(∀ v,o.data≠.cell v)->Inv (blk X scope N fp s2 H2 C) (pins++[(D,o)]) σ' H' s':=λ{σ' H' s' ps o} I' hps hD hn hd=>I'.pins_of λp hp=>by
  rcases List.mem_append.mp hp with z | z
  ·exact I'.pin p (List.mem_append_right _ (hps p z))
  ·have e:p=(D,o):=by simpa using z
   subst e
   refine⟨hD,hn,hDC,λhm=>?_,hd⟩
   obtain⟨_,o',ho',_⟩:=I2.stack.mem hm
   exact Nat.lt_irrefl _ (hDe ▸ hLz ho')
 have loop:codeAny (model X.prog X.w) X.A (.compLoop (.ListComp elt [⟨target,iter,ifs,0⟩] scope pos) 0 (.ref it) (.ref D) (compEnvC scope (clOf X.env scope.names []) C X.env))
   (compPost (model X.prog X.w) X.A X.xe use Q' (.ref D) C) { s2 with heap:=h₁,toks:=s2.toks+([]:List (Str×Value)).length }:=by
  refine zif (λn s'=>∃ i acc H' its o,Inv (blk X scope N fp s2 H2 C) (pins++[(D,o)]) (visS sel σ) H' s'/\tn i s'.heap/\(∀ b∈fp,H' b=none)/\W i n acc H'/\zaM acc its/\(∃ k,o={ cls:=.type "list",data:=.seq its.toArray k })/\H' D=none) ?_ m0 ?_
  ·rintro n s3 ⟨i,acc,H3,its,o,J3,st3,fr3,w3,rv,⟨kk,ho⟩,hDn⟩
   have hd:∀ v,o.data≠.cell v:=λv z=>by subst ho; cases z
   obtain⟨hsz,go⟩:=turn i n acc H3 w3
   rcases go with ⟨stop,qn⟩ | ⟨go,step⟩
   ·refine thn (T.done (blk X scope N fp s2 H2 C) rfl rfl rfl hc i _ s3 _ H3 (λ_ _=>False) J3 (stat fr3) st3 stop) λr s4 ⟨hr,J4⟩=>?_
    subst hr
    obtain⟨m,hn,_⟩:=id J4.loc
    have hD4:=(J4.pin (D,o) (by simp)).1
    simp only at hD4
    have u4:=J4.base
    have neD:∀ b ob,s2.heap.get? b=some ob->b≠D:=λb ob e=>nNl (hDe ▸ hLz e)
    have neC:∀ b ob,s2.heap.get? b=some ob->b≠C:=λb ob e=>nNl (nLl (hLz e) hCle)
    have hfree:H3 C=none:=J4.free
    have hok:HOk X.prog X.w (upd H3 D (.lst acc)) s4.heap:=λb ob e=>by
     by_cases z:b=D
     ·subst z
      rw[zal]at e
      cases e
      subst ho
      exact⟨Nat.le_of_lt hsz,its,kk,rv,hD4⟩
     ·rw[zak z]at e
      exact(J4.hok b ob e).stay (λc w' hc' q=>q) (λc q=>by rw[zak (zap q hDn)]; exact q) (λc xs q=>by rw[zak (zap q hDn)]; exact q)
    have I4:Inv X pins σ (upd H3 D (.lst acc)) s4:=by
     refine I2.call' (ch:=fp) (s':=s4) J4.os ⟨?_,?_,?_,?_,?_,?_,?_⟩ hok J4.bare (λb hb=>?_)
     ·exact λb ob e hn' hb hx=>u4.keep b ob e hn' hb hx
     ·exact λb ob e hn' hb hx=>u4.slot b ob e hn' hb hx
     ·intro b ob e hn' hx
      rw[zak (neD b ob e)]
      exact u4.free b ob e hn' hx
     ·exact λb ob e hx=>u4.there b ob e hx
     ·intro b xs e
      have q:=u4.tups b xs e
      rw[zak (zap q hDn)]; exact q
     ·intro b ob xs e
      have q:=u4.frzs b ob xs e
      rw[zak (zap q hDn)]; exact q
     ·intro b ps e
      obtain⟨more,q⟩:=u4.tbls b ps e
      exact⟨more,by rw[zak (zap q hDn)]; exact q⟩
     ·obtain⟨_,f1,_,f3,f4,f5⟩:=f2 b hb
      exact⟨f3,f1,f4,f5⟩
    obtain⟨oC,esC,epC,eC,dC,rC⟩:=id hn
    have hnC:(upd H3 D (.lst acc)) C=none:=by rw[zak (Ne.symm hDC)]; exact hfree
    have neL:C≠X.env.locals:=by
     obtain⟨mL,⟨oL,_,_,eL,_⟩,_⟩:=I2.loc
     exact Ne.symm (neC _ _ eL)
    have neCell:∀ x c,X.env.cells.lookup x=some c->c≠C:=λx c hx=>by
     obtain⟨v,ob,hob,_⟩:=I2.cell x c hx
     exact neC _ _ hob
    have nePin:∀ p∈X.pn++pins,p.1≠C:=λp hp=>neC _ _ (I2.pin p hp).1
    have I5:Inv X (pins++[(C,oC)]) σ (upd H3 D (.lst acc)) s4:=I4.pins_of λp hp=>by
     rcases List.mem_append.mp hp with z | z
     ·exact I4.pin p (List.mem_append_right _ z)
     ·have e:p=(C,oC):=by simpa using z
      subst e
      refine⟨eC,hnC,neL,λhm=>?_,λv z=>by rw[dC]at z; cases z⟩
      obtain⟨_,o',ho',_⟩:=I2.funs.mem hm
      exact neC _ _ ho' rfl
    exact fin' D C oC m _ s4 I5 hn ⟨Nat.le_trans I2.sz hCle,neL,neCell,nePin,hnC⟩ (qn D hDn)
   ·refine thn (T.item (blk X scope N fp s2 H2 C) rfl rfl rfl hc i _ s3 _ H3 (λ_ _=>False) J3 (stat fr3) st3 go) λr s4 ⟨u,hr,h4⟩=>?_
    subst hr
    refine thn h4 λ_ s5 ⟨x,H5,J5,r5,y5,st5,fr5⟩=>?_
    have J5':=J5.pinned (stat fr5) (T.obj _ _ st5)
    have hD5:H5 D=none:=(J5.pin (D,o) (by simp)).2.1
    refine thn (hg _ _ _ _ _ s5 _ H5 x u _ J5' r5 (step x H5 y5)) λ_ s6 ⟨σ6,H6,J6,q6⟩=>?_
    refine thn (ht _ _ _ _ _ s6 σ6 H6 _ J6 q6) λb s7 ⟨H7,J7,q7⟩=>?_
    have fin:∀ {σ8:St} {H8:Hp} {s8:Shared} {acc8:List V} {m':Nat} {its8:List Value} {o8:Obj},Inv (blk X scope N fp s2 H2 C) (pins++[(D,o8)]) σ8 H8 s8->(∀ b∈fp,∀ ob,s5.heap.get? b=some ob->s8.heap.get? b=some ob)->(∀ b∈fp,H8 b=none)->m' < n->W (i+1) m' acc8 H8->zaM acc8 its8->(∃ k,o8={ cls:=.type "list",data:=.seq its8.toArray k }) ->
      ∃ m,m < n/\∃ i acc H' its o,Inv (blk X scope N fp s2 H2 C) (pins++[(D,o)]) (visS sel σ) H' s8/\tn i s8.heap/\(∀ b∈fp,H' b=none)/\W i m acc H'/\zaM acc its/\(∃ k,o={ cls:=.type "list",data:=.seq its.toArray k })/\H' D=none:=λ{σ8 H8 s8 acc8 m' its8 o8} J8 kf nf hm w8 rv8 ho8 =>
     ⟨m',hm,i+1,acc8,H8,its8,o8,blk_again B I2 f2 hCle J8,T.keep _ _ _ st5 kf,nf,w8,rv8,ho8,(J8.pin (D,o8) (by simp)).2.1⟩
    have pf:∀ {σ8:St} {H8:Hp} {s8:Shared},Inv (blk X scope N fp s2 H2 C) (pins++[(D,o)]++zfx fp s5.heap) σ8 H8 s8->(∀ b∈fp,∀ ob,s5.heap.get? b=some ob->s8.heap.get? b=some ob)/\(∀ b∈fp,H8 b=none):=λ{σ8 H8 s8} J8=>by
     refine⟨λb hb ob e=>(J8.pin (b,ob) (List.mem_append_right _ (List.mem_append_right _ (zdU hb e)))).1,λb hb=>?_⟩
     obtain⟨ob,e,_⟩:=T.obj _ _ st5 b hb
     exact(J8.pin (b,ob) (List.mem_append_right _ (List.mem_append_right _ (zdU hb e)))).2.1
    cases b with
    | false =>
     rw[if_neg Bool.false_ne_true]at q7 ⊢
     obtain⟨m',hm,w7⟩:=q7
     exact fin (J7.unpinned) (pf J7).1 (pf J7).2 hm w7 rv ⟨kk,ho⟩
    | true =>
     rw[if_pos rfl]at q7 ⊢
     refine thn (he _ _ _ _ _ s7 σ6 H7 _ J7 q7) λy s8 ⟨z,H8,J8,r8,m',hm,w8⟩=>?_
     have hD8:=J8.pin (D,o) (by simp)
     simp only at hD8
     have hlen:=rv.length
     refine wpAny_list_append_plain (items:=its.toArray) (hsz:=by rw[List.size_toArray]; lia) ⟨kk,by rw[<- ho]; exact hD8.1⟩ λh9 hl9 hs9=>?_
     obtain⟨k9,e9⟩:=hl9
     have eqa:its.toArray.push y=(its++[y]).toArray:=by simp
     rw[eqa]at e9
     have J9:Inv (blk X scope N fp s2 H2 C) (pins++zfx fp s5.heap) σ6 H8 s8:=J8.pins_of λp hp=>by
      rcases List.mem_append.mp hp with z | z
      ·exact J8.pin p (List.mem_append_right _ (List.mem_append_left _ (List.mem_append_left _ z)))
      ·exact J8.pin p (List.mem_append_right _ (List.mem_append_right _ z))
     have nfD:∀ b∈fp,b≠D:=λb hb=>nNl (hDe ▸ ofp b hb)
     have pD:∀ p∈X.pn++pins,p.1≠D:=λp hp=>nNl (hDe ▸ hLz (I2.pin p hp).1)
     have J10:Inv (blk X scope N fp s2 H2 C) (pins++zfx fp s5.heap) σ6 H8 { s8 with heap:=h9 }:=J9.turned (t':=s8.toks) (it:=D) (λb ob hb e=>(hs9.2 b hb).trans e) hD8.2.1 hDC (.inr (Nat.le_of_eq hDe))
      (λx c hx=>by
       obtain⟨v,ob,hob,_⟩:=I2.cell x c (B.cl1 I2.ok hx)
       exact nNl (hDe ▸ hLz hob))
      (λp hp=>by
       rcases List.mem_append.mp hp with z | z
       ·exact pD p (List.mem_append_left _ z)
       ·rcases List.mem_append.mp z with z | z
        ·exact pD p (List.mem_append_right _ z)
        ·exact nfD _ (zhZ z).1)
     refine fin (pinD (o:={ cls:=.type "list",data:=.seq (its++[y]).toArray k9 }) J10 (λp hp=>List.mem_append_left _ hp) e9 hD8.2.1 (λv z=>by cases z)) (λb hb ob e=>(hs9.2 b (nfD b hb)).trans ((pf J8).1 b hb ob e)) (pf J8).2 hm w8 (zaM.append rv (.cons r8 .nil)) ⟨k9,rfl⟩
  ·obtain⟨k0,e0⟩:=hacc
   exact⟨0,[],H2,[],_,pinD I3 (λ_ z=>z) e0 (I2.hok.fresh (Nat.le_of_eq hDe)) (λv z=>by cases z),T.keep _ _ _ st2 (λb _ ob e=>k2 b ob e),λb hb=>(f2 b hb).1,w0,.nil,⟨k0,rfl⟩,I2.hok.fresh (Nat.le_of_eq hDe)⟩
 refine codeAny_compStart_list loop (T.self X.A 0 _ _ _ (T.keep _ _ _ st2 (λb _ ob e=>k2 b ob e)) loop)
theorem pe_comp(hc:X.calm=true)(B:BlkOk X scope N sel)(hi:PI X target iter wi)
  (hg:∀ fp s H C,PG (blk X scope N fp s H C) target g) (ht:∀ fp s H C,PIfs (blk X scope N fp s H C) ifs tc) (he:∀ fp s H C,PE (blk X scope N fp s H C) elt te)
  (hs:∀ x,foldedSetIterable iter X.env x=pure x:=by intro _; rfl):PE X (.ListComp elt [⟨target,iter,ifs,0⟩] scope pos) (tComp sel wi g tc te):=by
 intro pins s σ H Q I h
 rw[eval_ListComp]
 refine zie (use:=none) hc B hi hg ht he hs I h λD C oC m H4 s4 I4 hn ⟨n1,n2,n3,n4,n5⟩ q=>?_
 have I5:Inv X pins σ H4 s4:=I4.unpinned
 exact⟨m,hn,λh'' sb=>⟨.ref D,H4,I5.turned (t':=s4.toks) (it:=C) (λb o hb e=>(sb.2 b hb).trans e) n5 n2 (.inr n1) n3 n4,rfl,q⟩⟩
theorem ps_setcomp{i:Nat}{y:Str}{py spos:Pos}(hc:X.calm=true)(hN:X.N.Nodup)(hy:X.N[i]?=some y)(hx:Loc X.env.scope y)(B:BlkOk X scope N sel)(hi:PI X target iter wi)
  (hg:∀ fp s H C,PG (blk X scope N fp s H C) target g) (ht:∀ fp s H C,PIfs (blk X scope N fp s H C) ifs tc) (he:∀ fp s H C,PE (blk X scope N fp s H C) elt te)
  (hsw:swapsWith (.ListComp elt [⟨target,iter,ifs,0⟩] scope pos) (some (.Name y py)) spos.line X.env=pure true)
  (hs:∀ x,foldedSetIterable iter X.env x=pure x:=by intro _; rfl) (hf:X.fn y=true∨X.env.scope.names.lookup y=some .local:=by first | exact .inl rfl | exact .inr rfl | assumption) :
  PS X (.Assign [.Name y py] (.ListComp elt [⟨target,iter,ifs,0⟩] scope pos) spos) (tAsg (tComp sel wi g tc te) (gName i)):=by
 intro pins s σ H D I h
 rw[exec_Assign_Name_used _ _ _ _ hsw]
 refine wB (wpAny_standAt (wB ?_))
 show wpAny _ _ (do let _ <- comprehension (.ListComp elt [⟨target,iter,ifs,0⟩] scope pos) scope X.env _ (newList []) false (eval iter X.env) (some (assign (.Name y py) X.env))) _ _ s
 refine wB (thn (zie (use:=some (assign (.Name y py) X.env)) (Q':=λ_ s'=>SP X pins D .next s') hc B hi hg ht he hs I h λd C oC m H4 s4 I4 hn ⟨n1,n2,n3,n4,n5⟩ q=>?_) λ_ s' hq=>wQ (wQ hq))
 show wpAny _ _ (assign (.Name y py) X.env (.ref d)) _ _ _
 refine thn (pg_name (X:=X) (i:=i) hN hy hx hf _ s4 σ H4 (.ref d) (.ref d) _ I4 rfl q) λ_ s5 ⟨σ5,H5,I5,q5⟩=>?_
 have hC:=I5.pin (C,oC) (by simp)
 simp only at hC
 obtain⟨o',es,ep,e,r⟩:=id hn
 have hn5:s5.heap.Ns C m:=⟨o',es,ep,by
  have e4:=(I4.pin (C,oC) (by simp)).1
  simp only at e4
  rw[e4]at e; cases e
  exact hC.1,r⟩
 refine⟨m,hn5,λh'' sb=>⟨σ5,H5,(I5.unpinned).turned (t':=s5.toks) (it:=C) (λb o hb e=>(sb.2 b hb).trans e) hC.2.1 n2 (.inr n1) n3 n4,q5⟩⟩
end
end L2
namespace L3
open PySem PySem.Spec PyProof.Rows L2
structure KW where
 k:W.Frag
 w:World
 P:Program
noncomputable abbrev _root_.L2.Cx.kw(X:Cx):KW:=⟨X.K,X.w,X.prog⟩
inductive T where
 | non | bl (b:Bool) | int (i:Int) | str (x:Str) | ref (a:Addr) | tup (ts:List T) | fro (ts:List T) | ty (n:String)
noncomputable def SqF(K:W.Frag)(H:Hp)(a:Addr)(xs:List V):Prop :=
 (∃ o,H a=some (.frz o (.lst xs))) ∨
  ∃ (o:Obj) (its:Array Value) (n:Nat),K.lookup a=some o/\o.cls=.type "list"/\o.dict=none/\o.data=.seq its n/\its.size<=sizeLine/\zaM xs its.toList
theorem SqF.sq{K:W.Frag}{H:Hp}{a:Addr}{xs:List V}(h:SqF K H a xs):SqL K H a xs:=by
 rcases h with ⟨o,h⟩ | h
 ·exact .inl (.inr ⟨o,h⟩)
 ·exact .inr h
mutual
inductive Den(K:KW)(H:Hp):V->T->Prop
 | non:Den K H .non .non
 | bl (b:Bool):Den K H (.bl b) (.bl b)
 | int (i:Int):Den K H (.int i) (.int i)
 | str (x:Str):Den K H (.str x) (.str x)
 | ref (a:Addr):Den K H (.ref a) (.ref a)
 | ty (n:String):Den K H (.ty n) (.ty n)
 | tup {a:Addr} {xs:List V} {ts:List T}:SqT K.k H a xs->Dens K H xs ts->Den K H (.ref a) (.tup ts)
 | fro {a:Addr} {xs:List V} {ts:List T}:SqF K.k H a xs->Dens K H xs ts->Den K H (.ref a) (.fro ts)
inductive Dens(K:KW)(H:Hp):List V->List T->Prop
 | nil:Dens K H [] []
 | cons {v:V} {t:T} {vs:List V} {ts:List T}:Den K H v t->Dens K H vs ts->Dens K H (v::vs) (t::ts)
end
noncomputable def keepF:HO->Bool
 | .lst _=>true
 | .tup _=>true
 | .own _=>true
 | _=>false
structure Kp(H H':Hp):Prop where
 tups:∀ a xs,H a=some (.tup xs)->H' a=some (.tup xs)
 frzs:∀ a o u,H a=some (.frz o u)->keepF u=true->H' a=some (.frz o u)
theorem Kp.refl(H:Hp):Kp H H:=⟨λ_ _ h=>h,λ_ _ _ h _=>h⟩
theorem Kp.trans{H H1 H2:Hp}(a:Kp H H1)(b:Kp H1 H2):Kp H H2:=⟨λx xs h=>b.tups _ _ (a.tups _ _ h),λx o u h m=>b.frzs _ _ _ (a.frzs _ _ _ h m) m⟩
theorem Kp.new{H:Hp}{a:Addr}{o:HO}(h:H a=none):Kp H (upd H a o) :=
 ⟨λb xs e=>by rw[zak (zap e h)]; exact e,λb o u e _=>by rw[zak (zap e h)]; exact e⟩
theorem Kp.mut{H:Hp}{a:Addr}{o:HO}(h:Mut (H a)):Kp H (upd H a o):=by
 refine⟨λb xs e=>?_,λb o u e _=>?_⟩
 ·rw[zak]; exact e
  rintro rfl; rw[e]at h; exact h
 ·rw[zak]; exact e
  rintro rfl; rw[e]at h; exact h
theorem Kp.thaw{H:Hp}{a:Addr}{o:HO}{ob:Obj}{u:HO}(h:H a=some (.frz ob u))(m:keepF u=false):Kp H (upd H a o):=by
 refine⟨λb xs e=>?_,λb o u' e m'=>?_⟩
 ·rw[zak]; exact e
  rintro rfl; rw[h]at e; cases e
 ·rw[zak]; exact e
  rintro rfl; rw[h]at e; cases e; rw[m]at m'; cases m'
theorem Kp.sqT{K:W.Frag}{H H':Hp}(k:Kp H H'){a:Addr}{xs:List V}(h:SqT K H a xs):SqT K H' a xs:=by
 rcases h with (h | ⟨o,h⟩) | h
 ·exact .inl (.inl (k.tups _ _ h))
 ·exact .inl (.inr ⟨o,k.frzs _ _ _ h rfl⟩)
 ·exact .inr h
theorem Kp.sqF{K:W.Frag}{H H':Hp}(k:Kp H H'){a:Addr}{xs:List V}(h:SqF K H a xs):SqF K H' a xs:=by
 rcases h with ⟨o,h⟩ | h
 ·exact .inl ⟨o,k.frzs _ _ _ h rfl⟩
 ·exact .inr h
mutual
theorem Den.mono{K:KW}{H H':Hp}(k:Kp H H'):∀ {v:V} {t:T},Den K H v t->Den K H' v t
 | _,_,.non=>.non
 | _,_,.bl b=>.bl b
 | _,_,.int b=>.int b
 | _,_,.str b=>.str b
 | _,_,.ref b=>.ref b
 | _,_,.ty b=>.ty b
 | _,_,.tup h d=>.tup (k.sqT h) (Dens.mono k d)
 | _,_,.fro h d=>.fro (k.sqF h) (Dens.mono k d)
theorem Dens.mono{K:KW}{H H':Hp}(k:Kp H H'):∀ {vs:List V} {ts:List T},Dens K H vs ts->Dens K H' vs ts
 | _,_,.nil=>.nil
 | _,_,.cons a b=>.cons (Den.mono k a) (Dens.mono k b)
end
theorem Dens.length{K:KW}{H:Hp}:∀ {vs:List V} {ts:List T},Dens K H vs ts->vs.length=ts.length
 | _,_,.nil=>rfl
 | _,_,.cons _ b=>by simp[Dens.length b]
theorem Dens.get{K:KW}{H:Hp}:∀ {vs:List V} {ts:List T} {i:Nat} {t:T},Dens K H vs ts->ts[i]?=some t->∃ v,vs[i]?=some v/\Den K H v t
 | _,_,_,_,.nil,e=>by simp at e
 | _,_,0,_,.cons a _,e=>by simp at e; subst e; exact⟨_,rfl,a⟩
 | _,_,i+1,t,.cons _ b,e=>by
  obtain⟨v,h1,h2⟩:=Dens.get (i:=i) (t:=t) b (by simpa using e)
  exact⟨v,by simpa using h1,h2⟩
theorem Dens.getV{K:KW}{H:Hp}:∀ {vs:List V} {ts:List T} {i:Nat} {v:V},Dens K H vs ts->vs[i]?=some v->∃ t,ts[i]?=some t/\Den K H v t
 | _,_,_,_,.nil,e=>by simp at e
 | _,_,0,_,.cons a _,e=>by simp at e; subst e; exact⟨_,rfl,a⟩
 | _,_,i+1,t,.cons _ b,e=>by
  obtain⟨v,h1,h2⟩:=Dens.getV (i:=i) (v:=t) b (by simpa using e)
  exact⟨v,by simpa using h1,h2⟩
theorem Dens.set{K:KW}{H:Hp}{v:V}{t:T}(d:Den K H v t):∀ {vs:List V} {ts:List T} (i:Nat),Dens K H vs ts->Dens K H (vs.set i v) (ts.set i t)
 | _,_,_,.nil=>.nil
 | _,_,0,.cons _ b=>.cons d b
 | _,_,i+1,.cons a b=>.cons a (Dens.set d i b)
theorem Dens.append{K:KW}{H:Hp}:∀ {vs us:List V} {ts ws:List T},Dens K H vs ts->Dens K H us ws->Dens K H (vs++us) (ts++ws)
 | _,_,_,_,.nil,s=>s
 | _,_,_,_,.cons r t,s=>.cons r (Dens.append t s)
theorem Dens.take{K:KW}{H:Hp}:∀ {vs:List V} {ts:List T} (n:Nat),Dens K H vs ts->Dens K H (vs.take n) (ts.take n)
 | _,_,0,_=>.nil
 | _,_,_+1,.nil=>.nil
 | _,_,n+1,.cons r t=>.cons r (Dens.take n t)
theorem Dens.drop{K:KW}{H:Hp}:∀ {vs:List V} {ts:List T} (n:Nat),Dens K H vs ts->Dens K H (vs.drop n) (ts.drop n)
 | _,_,0,r=>r
 | _,_,_+1,.nil=>.nil
 | _,_,n+1,.cons _ t=>Dens.drop n t
theorem Dens.ints{K:KW}{H:Hp}:∀ (ns:List Int),Dens K H (ns.map V.int) (ns.map T.int)
 | []=>.nil
 | n::r=>.cons (.int n) (Dens.ints r)
noncomputable def a0T:A0->T
 | .non=>.non
 | .int i=>.int i
 | .str x=>.str x
noncomputable def a1T:A1->T
 | .at a=>a0T a
 | .tup l=>.tup (l.map a0T)
noncomputable def lkT(k:LK):T:=.tup (k.map a1T)
inductive GO where
 | lst (ts:List T)
 | dK (kvs:List (Key×T))
 | ins (C:Addr) (fs:List (Str×T))
 | dT (kvs:List (LK×T))
 | dF (ob:Obj) (kvs:List (Key×T))
 | dG (ob:Obj) (kvs:List (LK×T))
 | tab (q:Str) (pos:Pos)
noncomputable def GO.mu:GO->Bool
 | .dF _ _=>false
 | .dG _ _=>false
 | .tab _ _=>false
 | _=>true
noncomputable abbrev Gp:=Addr->Option GO
noncomputable def updG(G:Gp)(a:Addr)(o:GO):Gp:=λb=>if b=a then some o else G b
theorem zaa{G:Gp}{a:Addr}{o:GO}:updG G a o a=some o:=by unfold updG; rw[if_pos rfl]
theorem zab{G:Gp}{a b:Addr}{o:GO}(h:b≠a):updG G a o b=G b:=by unfold updG; rw[if_neg h]
theorem zb9{G:Gp}{a:Addr}{o u:GO}:updG (updG G a o) a u=updG G a u:=by
 funext b; unfold updG; split<;>rfl
theorem neG{G:Gp}{a b:Addr}{o:GO}(h:G a=some o)(h':G b=none):a≠b:=by
 intro e; subst e; rw[h]at h'; cases h'
theorem neG2{G:Gp}{a b:Addr}{o u:GO}(h:G a=some o)(h':G b=some u)(d:o≠u):a≠b:=by
 intro e; subst e; rw[h]at h'; exact d (Option.some.inj h')
noncomputable abbrev zir(K:KW)(H:Hp):List (Str×V)->List (Str×T)->Prop:=Paired λp q=>p.1=q.1/\Den K H p.2 q.2
noncomputable abbrev zdW(K:KW)(H:Hp):List (Key×V)->List (Key×T)->Prop:=Paired λp q=>p.1=q.1/\Den K H p.2 q.2
noncomputable abbrev zdA(K:KW)(H:Hp):List (LK×T)->List (LK×Addr×Value)->Prop:=Paired λp x=>p.1=x.1/\Den K H (.ref x.2.1) (lkT x.1)/\∃ v,zaK v x.2.2/\Den K H v p.2
noncomputable def Tab(H:Hp)(q:Str)(pos:Pos)(ps:Array Value):Prop :=
 ps=#[]∨∃ c oc vs t,ps=#[rawInt pos.line,rawInt pos.col,.ref c]/\H c=some (.frz oc (.own c))/\oc.data=.fields vs/\vs[1]?=some (.str q t)
theorem Tab.mono{H H':Hp}{q:Str}{pos:Pos}{ps:Array Value}(k:Kp H H')(h:Tab H q pos ps):Tab H' q pos ps:=by
 rcases h with h | ⟨c,oc,vs,t,e,hc,r⟩
 ·exact .inl h
 ·exact .inr ⟨c,oc,vs,t,e,k.frzs _ _ _ hc rfl,r⟩
noncomputable def zey(K:KW)(H:Hp)(a:Addr):GO->Prop
 | .dT kvs=>∃ xs,H a=some (.ext (ziI K.P K.w a xs))/\zdA K H kvs xs
 | .lst ts=>∃ xs,H a=some (.lst xs)/\Dens K H xs ts
 | .dK kvs=>∃ ks,H a=some (.dK ks)/\zdW K H ks kvs
 | .ins C fs=>∃ dx xs,H a=some (.ins C dx xs)/\zir K H xs fs
 | .dF ob kvs=>∃ ks,H a=some (.frz ob (.dK ks))/\zdW K H ks kvs
 | .dG ob kvs=>∃ xs,H a=some (.frz ob (.ext (ziI K.P K.w a xs)))/\zdA K H kvs xs
 | .tab q pos=>∃ ps,H a=some (.tbl ps)/\Tab H q pos ps
noncomputable def HR(K:KW)(H:Hp)(G:Gp):Prop:=∀ a o,G a=some o->zey K H a o
section
variable {K:KW}{H H':Hp}{G G':Gp}{a:Addr}{o:GO}
theorem zir.mono(k:Kp H H'){xs:List (Str×V)}{fs:List (Str×T)}(h:zir K H xs fs):zir K H' xs fs:=Paired.mapP h λ_ _ hu=>(by obtain⟨e,d⟩:=hu; exact⟨e,d.mono k⟩)
theorem zdW.mono(k:Kp H H'){xs:List (Key×V)}{fs:List (Key×T)}(h:zdW K H xs fs):zdW K H' xs fs:=Paired.mapP h λ_ _ hu=>(by obtain⟨e,d⟩:=hu; exact⟨e,d.mono k⟩)
theorem zdA.mono(k:Kp H H'){xs:List (LK×T)}{fs:List (LK×Addr×Value)}(h:zdA K H xs fs):zdA K H' xs fs:=Paired.mapP h λ_ _ hu=>(by obtain⟨e,d,v,r,d'⟩:=hu; exact⟨e,d.mono k,v,r,d'.mono k⟩)
theorem HR.free(r:HR K H G)(h:H a=none):G a=none:=by
 cases e:G a with
 | none=>rfl
 | some o =>
  have x:=r a o e
  cases o with
  | lst ts=>obtain⟨xs,q,_⟩:=x; rw[h]at q; cases q
  | dK ts=>obtain⟨xs,q,_⟩:=x; rw[h]at q; cases q
  | ins C fs=>obtain⟨dx,xs,q,_⟩:=x; rw[h]at q; cases q
  | dT ts=>obtain⟨xs,q,_⟩:=x; rw[h]at q; cases q
  | dF ob ts=>obtain⟨xs,q,_⟩:=x; rw[h]at q; cases q
  | dG ob ts=>obtain⟨xs,q,_⟩:=x; rw[h]at q; cases q
  | tab qq ps=>obtain⟨xs,q,_⟩:=x; rw[h]at q; cases q
theorem zey.at(x:zey K H a o)(k:Kp H H')(e:H' a=H a):zey K H' a o:=by
 cases o with
 | lst ts=>obtain⟨xs,q,d⟩:=x; exact⟨xs,e.trans q,d.mono k⟩
 | dK ts=>obtain⟨xs,q,d⟩:=x; exact⟨xs,e.trans q,zdW.mono k d⟩
 | ins C fs=>obtain⟨dx,xs,q,d⟩:=x; exact⟨dx,xs,e.trans q,zir.mono k d⟩
 | dT ts=>obtain⟨xs,q,d⟩:=x; exact⟨xs,e.trans q,zdA.mono k d⟩
 | dF ob ts=>obtain⟨xs,q,d⟩:=x; exact⟨xs,e.trans q,zdW.mono k d⟩
 | dG ob ts=>obtain⟨xs,q,d⟩:=x; exact⟨xs,e.trans q,zdA.mono k d⟩
 | tab qq ps=>obtain⟨xs,q,d⟩:=x; exact⟨xs,e.trans q,d.mono k⟩
theorem HR.sub(r:HR K H G)(h:∀ a o,G' a=some o->G a=some o):HR K H G':=λa o e=>r a o (h a o e)
theorem HR.lay(r:HR K H G){b:Addr}{u:HO}(h:H b=none):HR K (upd H b u) G:=λa o e=>by
 refine (r a o e).at (Kp.new h) (zak ?_)
 rintro rfl
 have:=r.free h
 rw[e]at this; cases this
theorem HR.new(r:HR K H G){b:Addr}{u:HO}{o:GO}(h:H b=none)(n:zey K (upd H b u) b o):HR K (upd H b u) (updG G b o):=λa p e=>by
 by_cases z:a=b
 ·subst z; rw[zaa]at e; cases e; exact n
 ·rw[zab z]at e; exact r.lay h a p e
theorem zey.mutb(x:zey K H a o)(m:o.mu=true):Mut (H a):=by
 cases o with
 | lst ts=>obtain⟨xs,q,d⟩:=x; rw[q]; trivial
 | dK ts=>obtain⟨xs,q,d⟩:=x; rw[q]; trivial
 | ins C fs=>obtain⟨dx,xs,q,d⟩:=x; rw[q]; trivial
 | dT ts=>obtain⟨xs,q,d⟩:=x; rw[q]; trivial
 | dF ob ts=>cases m
 | dG ob ts=>cases m
 | tab q ps=>cases m
theorem HR.put(r:HR K H G){u:HO}{o o':GO}(h:G a=some o)(n:zey K (upd H a u) a o')(m:o.mu=true:=by rfl):HR K (upd H a u) (updG G a o'):=λb p e=>by
 by_cases z:b=a
 ·subst z; rw[zaa]at e; cases e; exact n
 ·rw[zab z]at e
  exact(r b p e).at (Kp.mut ((r a o h).mutb m)) (zak z)
end
noncomputable abbrev St3:=List (Option T)
noncomputable abbrev VK3:=T->Gp->Prop
noncomputable abbrev TE3:=St3->Gp->VK3->Prop
noncomputable abbrev TT3:=St3->Gp->(Bool->Gp->Prop)->Prop
noncomputable abbrev TA3:=St3->Gp->(List T->Gp->Prop)->Prop
structure Ends3 where
 nx:St3->Gp->Prop
 rt:VK3
 bk:St3->Gp->Prop:=λ_ _=>False
 ct:St3->Gp->Prop:=λ_ _=>False
noncomputable abbrev TS3:=Ends3->St3->Gp->Prop
inductive Sts(K:KW)(H:Hp):L2.St->St3->Prop
 | nil:Sts K H [] []
 | no {o:Option V} {σ:L2.St} {τ:St3}:Sts K H σ τ->Sts K H (o::σ) (none::τ)
 | yes {v:V} {t:T} {σ:L2.St} {τ:St3}:Den K H v t->Sts K H σ τ->Sts K H (some v::σ) (some t::τ)
section
variable {K:KW}{H H':Hp}
theorem Sts.mono(k:Kp H H'):∀ {σ:L2.St} {τ:St3},Sts K H σ τ->Sts K H' σ τ
 | _,_,.nil=>.nil
 | _,_,.no r=>.no (Sts.mono k r)
 | _,_,.yes d r=>.yes (d.mono k) (Sts.mono k r)
theorem Sts.get:∀ {σ:L2.St} {τ:St3} {i:Nat} {t:T},Sts K H σ τ->τ[i]?=some (some t)->∃ v,σ[i]?=some (some v)/\Den K H v t
 | _,_,_,_,.nil,e=>by simp at e
 | _,_,0,_,.no _,e=>by simp at e
 | _,_,0,_,.yes d _,e=>by simp at e; subst e; exact⟨_,rfl,d⟩
 | _,_,i+1,t,.no r,e=>by
  obtain⟨v,h1,h2⟩:=Sts.get (i:=i) (t:=t) r (by simpa using e)
  exact⟨v,by simpa using h1,h2⟩
 | _,_,i+1,t,.yes _ r,e=>by
  obtain⟨v,h1,h2⟩:=Sts.get (i:=i) (t:=t) r (by simpa using e)
  exact⟨v,by simpa using h1,h2⟩
theorem Sts.set{v:V}{t:T}(d:Den K H v t):∀ {σ:L2.St} {τ:St3} (i:Nat),Sts K H σ τ->Sts K H (σ.set i (some v)) (τ.set i (some t))
 | _,_,_,.nil=>.nil
 | _,_,0,.no r=>.yes d r
 | _,_,0,.yes _ r=>.yes d r
 | _,_,i+1,.no r=>.no (Sts.set d i r)
 | _,_,i+1,.yes e r=>.yes e (Sts.set d i r)
theorem Sts.reps:∀ n:Nat,Sts K H (List.replicate n none) (List.replicate n none)
 | 0=>.nil
 | n+1=>.no (Sts.reps n)
theorem Sts.start'(n:Nat):∀ {vs:List V} {ts:List T},Dens K H vs ts->Sts K H (vs.map some++List.replicate n none) (ts.map some++List.replicate n none)
 | _,_,.nil=>Sts.reps n
 | _,_,.cons a b=>.yes a (Sts.start' n b)
theorem Sts.start{vs:List V}{ts:List T}(N:List Str)(d:Dens K H vs ts):Sts K H (L2.start N vs) (ts.map some++List.replicate (N.length - ts.length) none):=by
 unfold L2.start
 rw[d.length]
 exact Sts.start' _ d
end
noncomputable def zad(n:Nat)(ts:List T):St3:=ts.map some++List.replicate (n - ts.length) none
section
variable (K:KW)
noncomputable def Imp(H:Hp)(Q3:VK3)(Q:VK):Prop:=∀ t G' v H',Q3 t G'->Kp H H'->Den K H' v t->HR K H' G'->Q v H'
noncomputable def lE(t:TE3):TE:=λσ H Q=>∃ τ G Q3,Sts K H σ τ/\HR K H G/\t τ G Q3/\Imp K H Q3 Q
noncomputable def ImpB(H:Hp)(Q3:Bool->Gp->Prop)(Q:Bool->Hp->Prop):Prop:=∀ b G' H',Q3 b G'->Kp H H'->HR K H' G'->Q b H'
noncomputable def lT(t:TT3):TT:=λσ H Q=>∃ τ G Q3,Sts K H σ τ/\HR K H G/\t τ G Q3/\ImpB K H Q3 Q
noncomputable def ImpA(H:Hp)(Q3:List T->Gp->Prop)(Q:List V->Hp->Prop):Prop:=∀ ts G' vs H',Q3 ts G'->Kp H H'->Dens K H' vs ts->HR K H' G'->Q vs H'
noncomputable def lA(t:TA3):TA:=λσ H Q=>∃ τ G Q3,Sts K H σ τ/\HR K H G/\t τ G Q3/\ImpA K H Q3 Q
noncomputable def ImpS(H:Hp)(Q3:St3->Gp->Prop)(Q:L2.St->Hp->Prop):Prop:=∀ τ G' σ H',Q3 τ G'->Kp H H'->Sts K H' σ τ->HR K H' G'->Q σ H'
structure ImpD(H:Hp)(D3:Ends3)(D:Ends):Prop where
 nx:ImpS K H D3.nx D.nx
 rt:Imp K H D3.rt D.rt
 bk:ImpS K H D3.bk D.bk
 ct:ImpS K H D3.ct D.ct
noncomputable def lS(t:TS3):TS:=λD σ H=>∃ τ G D3,Sts K H σ τ/\HR K H G/\t D3 τ G/\ImpD K H D3 D
end
theorem Imp.mono{K:KW}{H H':Hp}{Q3:VK3}{Q:VK}(i:Imp K H Q3 Q)(k:Kp H H'):Imp K H' Q3 Q:=λt G' v H'' q k' d r=>i t G' v H'' q (k.trans k') d r
theorem ImpB.mono{K:KW}{H H':Hp}{Q3:Bool->Gp->Prop}{Q:Bool->Hp->Prop}(i:ImpB K H Q3 Q)(k:Kp H H'):ImpB K H' Q3 Q:=λt G' H'' q k' r=>i t G' H'' q (k.trans k') r
theorem ImpS.mono{K:KW}{H H':Hp}{Q3:St3->Gp->Prop}{Q:L2.St->Hp->Prop}(i:ImpS K H Q3 Q)(k:Kp H H'):ImpS K H' Q3 Q:=λt G' v H'' q k' d r=>i t G' v H'' q (k.trans k') d r
theorem ImpD.mono{K:KW}{H H':Hp}{D3:Ends3}{D:Ends}(i:ImpD K H D3 D)(k:Kp H H'):ImpD K H' D3 D:=⟨i.nx.mono k,i.rt.mono k,i.bk.mono k,i.ct.mono k⟩
noncomputable abbrev QE(X:Cx)(e:Expr)(t:TE3):Prop:=PE X e (lE X.kw t)
noncomputable abbrev QT(X:Cx)(e:Expr)(t:TT3):Prop:=PT X e (lT X.kw t)
noncomputable abbrev QW(X:Cx)(e:Expr)(t:TT3):Prop:=PW X e (lT X.kw t)
noncomputable abbrev QA(X:Cx)(es:List Expr)(t:TA3):Prop:=PA X es (lA X.kw t)
noncomputable abbrev QS(X:Cx)(st:Stmt)(t:TS3):Prop:=PS X st (lS X.kw t)
noncomputable abbrev QSs(X:Cx)(st:List Stmt)(t:TS3):Prop:=PSs X st (lS X.kw t)
section
variable {X:Cx}{e a b c:Expr}{pos:Pos}
theorem _root_.L2.PE.imp{t t':TE}(h:PE X e t)(i:∀ σ H Q,t' σ H Q->t σ H Q):PE X e t':=λpins s σ H Q I q=>h pins s σ H Q I (i _ _ _ q)
theorem _root_.L2.PT.imp{t t':TT}(h:PT X e t)(i:∀ σ H Q,t' σ H Q->t σ H Q):PT X e t':=λpins s σ H Q I q=>h pins s σ H Q I (i _ _ _ q)
theorem _root_.L2.PW.imp{t t':TT}(h:PW X e t)(i:∀ σ H Q,t' σ H Q->t σ H Q):PW X e t':=λwh pins s σ H Q I q=>h wh pins s σ H Q I (i _ _ _ q)
theorem _root_.L2.PA.imp{es:List Expr}{t t':TA}(h:PA X es t)(i:∀ σ H Q,t' σ H Q->t σ H Q):PA X es t':=λp pins s σ H Q I q=>h p pins s σ H Q I (i _ _ _ q)
theorem _root_.L2.PS.imp{st:Stmt}{t t':TS}(h:PS X st t)(i:∀ D σ H,t' D σ H->t D σ H):PS X st t':=λpins s σ H D I q=>h pins s σ H D I (i _ _ _ q)
theorem _root_.L2.PSs.imp{st:List Stmt}{t t':TS}(h:PSs X st t)(i:∀ D σ H,t' D σ H->t D σ H):PSs X st t':=λpins s σ H D I q=>h pins s σ H D I (i _ _ _ q)
noncomputable def zas(i:Nat):TE3:=λτ G Q=>match τ[i]? with
 | some (some t)=>Q t G
 | _=>False
noncomputable def wC(t:T):TE3:=λ_ G Q=>Q t G
theorem qv(i:Nat){x:Str}{pos:Pos}(hN:X.N[i]?=some x:=by rfl)(hv:Vis X.env.scope x:=by first | exact Or.inl rfl | exact Or.inr (Or.inl rfl) | exact Or.inr (Or.inr rfl))(hd:(x==("__debug__":Str))=false:=by decide)
  (hcd:(x==("__classdict__":Str))=false:=by decide):QE X (.Name x pos) (zas i):=(pe_var hN hv hd hcd).imp λσ H Q hu=>by
 obtain⟨τ,G,Q3,s,r,h,i'⟩:=hu
 unfold zas at h
 split at h
 ·rename_i t e
  obtain⟨v,e1,d⟩:=s.get e
  exact⟨v,e1,i' t G v H h (Kp.refl _) d r⟩
 ·exact h.elim
theorem qc{t:T}{v:V}(h:PE X e (tC v))(d:∀ K H,Den K H v t):QE X e (wC t):=h.imp λσ H Q hu=>(by obtain⟨τ,G,Q3,s,r,h,i'⟩:=hu; exact i' t G v H h (Kp.refl _) (d _ _) r)
theorem zaA{i j}:QE X (.Constant (.int i) j pos) (wC (.int i)):=qc pe_int λ_ _=>.int _
theorem qbl{i j}:QE X (.Constant (.bool i) j pos) (wC (.bl i)):=qc pe_bl λ_ _=>.bl _
theorem ziL{j}:QE X (.Constant .none j pos) (wC .non):=qc pe_non λ_ _=>.non
theorem qstr{i j}:QE X (.Constant (.str i) j pos) (wC (.str i)):=qc pe_str λ_ _=>.str _
theorem qgstr{x z:Str}{t:Tok}(hm:X.mg x=some (.str z t))(hg:Gl X x:=by rfl)(hd:(x==("__debug__":Str))=false:=by decide):QE X (.Name x pos) (wC (.str z)):=qc (pe_glob (v:=.str z) hg hm ⟨_,rfl⟩ hd) λ_ _=>.str _
noncomputable abbrev R3:=T->T->Gp->VK3->Prop
noncomputable def LR(K:KW)(r3:R3)(r:R2):Prop:=∀ H G x y x3 y3 Q Q3,Den K H x x3->Den K H y y3->HR K H G->r3 x3 y3 G Q3->Imp K H Q3 Q->r x y H Q
noncomputable def wOp(r:R3)(ta tb:TE3):TE3:=λτ G Q=>ta τ G λx G1=>tb τ G1 λy G2=>r x y G2 Q
theorem lOp{K:KW}{r3:R3}{r:R2}(l:LR K r3 r){ta tb:TE3}{σ:L2.St}{H:Hp}{Q:VK}(h:lE K (wOp r3 ta tb) σ H Q):tOp r (lE K ta) (lE K tb) σ H Q:=by
 obtain⟨τ,G,Q3,s,hr,h,i⟩:=h
 refine⟨τ,G,_,s,hr,h,λx G1 v H1 h1 k1 d1 r1=>?_⟩
 refine⟨τ,G1,_,s.mono k1,r1,h1,λy G2 u H2 h2 k2 d2 r2=>?_⟩
 exact l H2 G2 v u x y Q Q3 (d1.mono k2) d2 r2 h2 (i.mono (k1.trans k2))
theorem qop{op:Operator}{r:R2}{r3:R3}{ta tb:TE3}(ho:OpR X (binaryOp op) r)(l:LR X.kw r3 r)(ha:QE X a ta)(hb:QE X b tb):QE X (.BinOp a op b pos) (wOp r3 ta tb) :=
 (pe_op ho ha hb).imp λσ H Q h=>lOp l h
theorem qcmp{op:CmpOp}{r:R2}{r3:R3}{ta tb:TE3}(ho:OpR X (compareOp op) r)(l:LR X.kw r3 r)(ha:QE X a ta)(hb:QE X b tb)(hm:behindInMarks op b=false:=by first | exact nomark _ | with_unfolding_all rfl):QE X (.Compare a [op] [b] pos) (wOp r3 ta tb) :=
 (pe_cmpR ho ha hb hm).imp λσ H Q h=>lOp l h
noncomputable def zan(t:TE3):TT3:=λτ G Q=>t τ G λx G1=>match x with
 | .bl b=>Q b G1
 | _=>False
theorem lTest{K:KW}{t:TE}{t3:TE3}(l:∀ σ H Q,lE K t3 σ H Q->t σ H Q){σ:L2.St}{H:Hp}{Q:Bool->Hp->Prop}(h:lT K (zan t3) σ H Q):tTest t σ H Q:=by
 obtain⟨τ,G,Q3,s,hr,h,i⟩:=h
 refine l σ H _ ⟨τ,G,_,s,hr,h,λx G1 v H1 h1 k1 d1 r1=>?_⟩
 cases d1 with
 | bl b=>exact⟨b,rfl,i b G1 H1 h1 k1 r1⟩
 | _=>exact False.elim h1
theorem ziK{op:CmpOp}{r:R2}{r3:R3}{ta tb:TE3}(ho:OpR X (compareOp op) r)(l:LR X.kw r3 r)(ha:QE X a ta)(hb:QE X b tb)(hm:behindInMarks op b=false:=by first | exact nomark _ | with_unfolding_all rfl):QT X (.Compare a [op] [b] pos) (zan (wOp r3 ta tb)) :=
 (pt_cmpR ho ha hb hm).imp λσ H Q h=>lTest (λ_ _ _ q=>lOp l q) h
noncomputable def iI(C:Int->Int->Prop)(g:Int->Int->T):R3:=λx y G Q=>match x,y with
 | .int i,.int j=>C i j/\Q (g i j) G
 | _,_=>False
noncomputable def iI0(g:Int->Int->T):R3:=λx y G Q=>match x,y with
 | .int i,.int j=>Q (g i j) G
 | _,_=>False
theorem lI{K:KW}{C:Int->Int->Prop}{g:Int->Int->V}{g3:Int->Int->T}(hg:∀ i j H,Den K H (g i j) (g3 i j)):LR K (iI C g3) (rI C g):=by
 intro H G x y x3 y3 Q Q3 dx dy r h i
 cases dx<;>cases dy<;>first
  | exact False.elim h
  | exact⟨_,_,rfl,rfl,h.1,i _ G _ H h.2 (Kp.refl _) (hg _ _ _) r⟩
theorem lI0{K:KW}{g:Int->Int->V}{g3:Int->Int->T}(hg:∀ i j H,Den K H (g i j) (g3 i j)):LR K (iI0 g3) (rI0 g):=by
 intro H G x y x3 y3 Q Q3 dx dy r h i
 cases dx<;>cases dy<;>first
  | exact False.elim h
  | exact⟨_,_,rfl,rfl,i _ G _ H h (Kp.refl _) (hg _ _ _) r⟩
section
variable {ta tb:TE3}
theorem qadd(ha:QE X a ta)(hb:QE X b tb):QE X (.BinOp a .Add b pos) (wOp (iI0 λi j=>.int (i+j)) ta tb):=qop op_add (lI0 λ_ _ _=>.int _) ha hb
theorem qsub(ha:QE X a ta)(hb:QE X b tb):QE X (.BinOp a .Sub b pos) (wOp (iI0 λi j=>.int (i - j)) ta tb):=qop op_sub (lI0 λ_ _ _=>.int _) ha hb
theorem qmul(ha:QE X a ta)(hb:QE X b tb):QE X (.BinOp a .Mult b pos) (wOp (iI CMul λi j=>.int (i * j)) ta tb):=qop op_mul (lI λ_ _ _=>.int _) ha hb
theorem qmod(ha:QE X a ta)(hb:QE X b tb):QE X (.BinOp a .Mod b pos) (wOp (iI (λ_ j=>0 < j) λi j=>.int (i % j)) ta tb):=qop op_mod (lI λ_ _ _=>.int _) ha hb
theorem qpow(ha:QE X a ta)(hb:QE X b tb):QE X (.BinOp a .Pow b pos) (wOp (iI CPow λi j=>.int (i ^ j.toNat)) ta tb):=qop op_pow (lI λ_ _ _=>.int _) ha hb
theorem qshl(ha:QE X a ta)(hb:QE X b tb):QE X (.BinOp a .LShift b pos) (wOp (iI CPow λi j=>.int (i * 2 ^ j.toNat)) ta tb):=qop op_shl (lI λ_ _ _=>.int _) ha hb
theorem qshr(ha:QE X a ta)(hb:QE X b tb):QE X (.BinOp a .RShift b pos) (wOp (iI (λ_ j=>0<=j) λi j=>.int (i / 2 ^ j.toNat)) ta tb):=qop op_shr (lI λ_ _ _=>.int _) ha hb
theorem qband(ha:QE X a ta)(hb:QE X b tb):QE X (.BinOp a .BitAnd b pos) (wOp (iI0 λi j=>.int (Builtin.bitAnd i j)) ta tb):=qop op_and (lI0 λ_ _ _=>.int _) ha hb
theorem qtlt(ha:QE X a ta)(hb:QE X b tb):QT X (.Compare a [.Lt] [b] pos) (zan (wOp (iI0 λi j=>.bl (decide (i < j))) ta tb)):=ziK op_lt (lI0 λ_ _ _=>.bl _) ha hb
theorem qtgt(ha:QE X a ta)(hb:QE X b tb):QT X (.Compare a [.Gt] [b] pos) (zan (wOp (iI0 λi j=>.bl (decide (j < i))) ta tb)):=ziK op_gt (lI0 λ_ _ _=>.bl _) ha hb
theorem qtge(ha:QE X a ta)(hb:QE X b tb):QT X (.Compare a [.GtE] [b] pos) (zan (wOp (iI0 λi j=>.bl (decide (j<=i))) ta tb)):=ziK op_ge (lI0 λ_ _ _=>.bl _) ha hb
theorem qlt(ha:QE X a ta)(hb:QE X b tb):QE X (.Compare a [.Lt] [b] pos) (wOp (iI0 λi j=>.bl (decide (i < j))) ta tb):=qcmp op_lt (lI0 λ_ _ _=>.bl _) ha hb
end
noncomputable def isN:T->Bool
 | .non=>true
 | _=>false
theorem isN_den{K:KW}{H:Hp}{v:V}{t:T}(d:Den K H v t):decide (v=.non)=isN t:=by
 cases d<;>simp[isN]
noncomputable def wIsN:R3:=λx y G Q=>match y with
 | .non=>Q (.bl (isN x)) G
 | _=>False
noncomputable def zb8:R3:=λx y G Q=>match y with
 | .non=>Q (.bl (!isN x)) G
 | _=>False
theorem zjr{ta tb:TE3}(ha:QE X a ta)(hb:QE X b tb):QT X (.Compare a [.IsNot] [b] pos) (zan (wOp zb8 ta tb)):=ziK op_notN (λH G x y x3 y3 Q Q3 dx dy r h i=>by
 cases dy<;>first
  | exact False.elim h
  | exact⟨rfl,by rw[isN_den dx]; exact i _ G _ H h (Kp.refl _) (.bl _) r⟩) ha hb
noncomputable def zgo(t u:TT3):TT3:=λτ G Q=>t τ G λc G1=>if c=true then u τ G1 Q else Q false G1
noncomputable def wOr(t u:TT3):TT3:=λτ G Q=>t τ G λc G1=>if c=true then Q true G1 else u τ G1 Q
noncomputable def zd9(t:TT3):TT3:=λτ G Q=>t τ G λc G1=>Q (!c) G1
variable {rest:List Expr}{tA tB:TT3}
theorem qw1a(ha:QT X a tA):QW X (.BoolOp .And [a] pos) tA:=pw_and1 ha
theorem qw1o(ha:QT X a tA):QW X (.BoolOp .Or [a] pos) tA:=pw_or1 ha
theorem qwand(ha:QT X a tA)(hb:QW X (.BoolOp .And (b::rest) pos) tB):QW X (.BoolOp .And (a::b::rest) pos) (zgo tA tB):=(pw_and ha hb).imp λσ H Q hu=>by
 obtain⟨τ,G,Q3,s,r,h,i⟩:=hu
 refine⟨τ,G,_,s,r,h,λc G1 H1 h1 k1 r1=>?_⟩
 cases c with
 | true=>exact⟨τ,G1,Q3,s.mono k1,r1,h1,i.mono k1⟩
 | false=>exact i false G1 H1 h1 k1 r1
theorem qwor(ha:QT X a tA)(hb:QW X (.BoolOp .Or (b::rest) pos) tB):QW X (.BoolOp .Or (a::b::rest) pos) (wOr tA tB):=(pw_or ha hb).imp λσ H Q hu=>by
 obtain⟨τ,G,Q3,s,r,h,i⟩:=hu
 refine⟨τ,G,_,s,r,h,λc G1 H1 h1 k1 r1=>?_⟩
 cases c with
 | true=>exact i true G1 H1 h1 k1 r1
 | false=>exact⟨τ,G1,Q3,s.mono k1,r1,h1,i.mono k1⟩
theorem qtnot(ha:QT X a tA):QT X (.UnaryOp .Not a pos) (zd9 tA):=(pt_not ha).imp λσ H Q ⟨τ,G,Q3,s,r,h,i⟩ =>
 ⟨τ,G,_,s,r,h,λc G1 H1 h1 k1 r1=>i (!c) G1 H1 h1 k1 r1⟩
noncomputable def ziA(ta tb:TE3):TE3:=λτ G Q=>ta τ G λx G1=>match x with
 | .bl c=>if c=true then tb τ G1 Q else Q (.bl false) G1
 | _=>False
noncomputable def wOrV(ta tb:TE3):TE3:=λτ G Q=>ta τ G λx G1=>match x with
 | .bl c=>if c=true then Q (.bl true) G1 else tb τ G1 Q
 | _=>False
noncomputable def zix(ta:TE3):TE3:=λτ G Q=>ta τ G λx G1=>match x with
 | .bl c=>Q (.bl (!c)) G1
 | _=>False
variable {ta tb:TE3}
variable {st:Stmt}{rst:List Stmt}{t u:TS3}
noncomputable def zaj:TS3:=λD τ G=>D.nx τ G
noncomputable def zaG(t u:TS3):TS3:=λD τ G=>t { D with nx:=u D } τ G
theorem zar:QSs X [] zaj:=pss_nil.imp λD σ H hu=>(by obtain⟨τ,G,D3,s,r,h,i⟩:=hu; exact i.nx τ G σ H h (Kp.refl _) s r)
theorem qss(h1:QS X st t)(h2:QSs X rst u):QSs X (st::rst) (zaG t u):=(pss_cons h1 h2).imp λD σ H ⟨τ,G,D3,s,r,h,i⟩ =>
 ⟨τ,G,_,s,r,h,⟨λτ' G' σ' H' q k s' r'=>⟨τ',G',D3,s',r',q,i.mono k⟩,i.rt,i.bk,i.ct⟩⟩
theorem zaC(h1:QS X st t):QSs X [st] t:=pss_one h1
noncomputable def zbA(te:TE3):TS3:=λD τ G=>te τ G λ_ G1=>D.nx τ G1
theorem zeJ(he:QE X e ta)(hs:swapsWith e none pos.line X.env=pure false:=by rfl):QS X (.Expr e pos) (zbA ta):=(ps_expr he hs).imp λD σ H ⟨τ,G,D3,s,r,h,i⟩ =>
 ⟨τ,G,_,s,r,h,λx G1 v H1 h1 k1 d1 r1=>i.nx τ G1 σ H1 h1 k1 (s.mono k1) r1⟩
noncomputable def zaB(te:TE3):TS3:=λD τ G=>te τ G D.rt
theorem zbg(he:QE X e ta):QS X (.Return (some e) pos) (zaB ta):=(ps_ret he).imp λD σ H hu=>(by obtain⟨τ,G,D3,s,r,h,i⟩:=hu; exact⟨τ,G,_,s,r,h,i.rt⟩)
noncomputable def zgL:TS3:=λD _ G=>D.rt .non G
theorem qretN:QS X (.Return none pos) zgL:=ps_retN.imp λD σ H hu=>(by obtain⟨τ,G,D3,s,r,h,i⟩:=hu; exact i.rt .non G .non H h (Kp.refl _) .non r)
noncomputable def zaY(c:TT3)(t u:TS3):TS3:=λD τ G=>c τ G λb G1=>if b=true then t D τ G1 else u D τ G1
theorem zdX{A B:List Stmt}(hc:QT X c tA)(ha:QSs X A t)(hb:QSs X B u):QS X (.If c A B pos) (zaY tA t u):=(ps_if hc ha hb).imp λD σ H hu=>by
 obtain⟨τ,G,D3,s,r,h,i⟩:=hu
 refine⟨τ,G,_,s,r,h,λc G1 H1 h1 k1 r1=>?_⟩
 cases c with
 | true=>exact⟨τ,G1,D3,s.mono k1,r1,h1,i.mono k1⟩
 | false=>exact⟨τ,G1,D3,s.mono k1,r1,h1,i.mono k1⟩
noncomputable def zbh:TS3:=λ_ _ _=>False
theorem qnever:QS X st zbh:=ps_never.imp λD σ H hu=>(by obtain⟨τ,G,D3,s,r,h,i⟩:=hu; exact h)
theorem zeI:QSs X rst zbh:=pss_never.imp λD σ H hu=>(by obtain⟨τ,G,D3,s,r,h,i⟩:=hu; exact h)
noncomputable abbrev TG3:=T->St3->Gp->(St3->Gp->Prop)->Prop
noncomputable def lG(K:KW)(g:TG3):TG:=λv σ H Q=>∃ t τ G Q3,Den K H v t/\Sts K H σ τ/\HR K H G/\g t τ G Q3/\ImpS K H Q3 Q
noncomputable abbrev QG(X:Cx)(tg:Expr)(g:TG3):Prop:=PG X tg (lG X.kw g)
noncomputable def zaH(i:Nat):TG3:=λt τ G Q=>Q (τ.set i (some t)) G
theorem _root_.L2.PG.imp{tg:Expr}{g g':TG}(h:PG X tg g)(i:∀ v σ H Q,g' v σ H Q->g v σ H Q):PG X tg g':=λpins s σ H v u Q I r q=>h pins s σ H v u Q I r (i _ _ _ _ q)
theorem zbV(i:Nat){x:Str}(hN:X.N.Nodup)(hi:X.N[i]?=some x:=by rfl)(hx:Loc X.env.scope x:=by first | exact Or.inl rfl | exact Or.inr rfl)(hf:X.fn x=true∨X.env.scope.names.lookup x=some .local:=by first | exact .inl rfl | exact .inr rfl | assumption):QG X (.Name x pos) (zaH i) :=
 (pg_name hN hi hx hf).imp λv σ H Q hu=>(by obtain⟨t,τ,G,Q3,d,s,r,h,j⟩:=hu; exact j _ G _ H h (Kp.refl _) (s.set d i) r)
noncomputable def zaZ(te:TE3)(i:Nat):TS3:=λD τ G=>te τ G λx G1=>D.nx (τ.set i (some x)) G1
theorem zeH(i:Nat){x:Str}{pos':Pos}(hN:X.N.Nodup)(he:QE X e ta)(hi:X.N[i]?=some x:=by rfl)(hx:Loc X.env.scope x:=by first | exact Or.inl rfl | exact Or.inr rfl)(hs:swapsWith e (some (.Name x pos')) pos.line X.env=pure false:=by rfl)
  (hf:X.fn x=true∨X.env.scope.names.lookup x=some .local:=by first | exact .inl rfl | exact .inr rfl | assumption):QS X (.Assign [.Name x pos'] e pos) (zaZ ta i) :=
 (ps_set hN hi hx he hs hf).imp λD σ H hu=>(by obtain⟨τ,G,D3,s,r,h,j⟩:=hu; exact⟨τ,G,_,s,r,h,λx G1 v H1 h1 k1 d1 r1=>j.nx _ G1 _ H1 h1 k1 ((s.mono k1).set d1 i) r1⟩)
noncomputable def zis(te:TE3)(g:TG3):TS3:=λD τ G=>te τ G λx G1=>g x τ G1 D.nx
theorem qasg{tg:Expr}{g:TG3}(he:QE X e ta)(hg:QG X tg g)(hs:swapsWithSole [tg] e pos.line X.env=pure false:=by rfl)(hw:swappedStores [tg] e X.env=pure none:=by rfl)
  (h1:(assignEach [tg] X.env).map (·.2)=[assign tg X.env]:=by rfl):QS X (.Assign [tg] e pos) (zis ta g):=(ps_asg he hg hs hw h1).imp λD σ H ⟨τ,G,D3,s,r,h,j⟩ =>
 ⟨τ,G,_,s,r,h,λx G1 v H1 h1 k1 d1 r1=>⟨x,τ,G1,_,d1,s.mono k1,r1,h1,j.nx.mono k1⟩⟩
noncomputable def zat:TA3:=λ_ G Q=>Q [] G
noncomputable def zah(ta:TE3)(r:TA3):TA3:=λτ G Q=>ta τ G λx G1=>r τ G1 λxs G2=>Q (x::xs) G2
end
section
variable {X:Cx}{e a b c o:Expr}{es:List Expr}{pos apos p:Pos}{ta tb tv:TE3}{t:TA3}
theorem qa0:QA X [] zat:=zjy.imp λσ H Q hu=>(by obtain⟨τ,G,Q3,s,r,h,i⟩:=hu; exact i [] G [] H h (Kp.refl _) .nil r)
theorem qa(ha:QE X e ta)(hr:QA X es t)(hs:starEach (e::es) X.env=(false,eval e X.env)::starEach es X.env:=by rfl):QA X (e::es) (zah ta t):=(zeL ha hr hs).imp λσ H Q ⟨τ,G,Q3,s,r,h,i⟩ =>
 ⟨τ,G,_,s,r,h,λx G1 v H1 h1 k1 d1 r1=>⟨τ,G1,_,s.mono k1,r1,h1,λts G2 vs H2 h2 k2 d2 r2=>i _ G2 _ H2 h2 (k1.trans k2) (.cons (d1.mono k2) d2) r2⟩⟩
noncomputable def zd0(t:TA3):TE3:=λτ G Q=>t τ G λxs G1=>xs.length<=1000/\Q (.tup xs) G1
theorem qtup{x1}(h:QA X es t):QE X (.Tuple es x1 pos) (zd0 t):=(pe_tup h).imp λσ H Q ⟨τ,G,Q3,s,r,h,i⟩ =>
 ⟨τ,G,_,s,r,h,λts G1 vs H1 h1 k1 d1 r1=>⟨by rw[d1.length]; exact Nat.le_of_lt (zhH h1.1),λp hp=>i _ G1 _ _ h1.2 (k1.trans (Kp.new hp)) (.tup (SqT.of zal) (d1.mono (Kp.new hp))) (r1.lay hp)⟩⟩
noncomputable def zcM(t:TA3):TE3:=λτ G Q=>t τ G λxs G1=>xs.length<=1000/\∀ p,G1 p=none->Q (.ref p) (updG G1 p (.lst xs))
theorem qlst(h:QA X es t):QE X (.List es pos) (zcM t):=(pe_lst h).imp λσ H Q ⟨τ,G,Q3,s,r,h,i⟩ =>
 ⟨τ,G,_,s,r,h,λts G1 vs H1 h1 k1 d1 r1=>⟨by rw[d1.length]; exact Nat.le_of_lt (zhH h1.1),λp hp=>i _ _ _ _ (h1.2 p (r1.free hp)) (k1.trans (Kp.new hp)) (.ref p) (r1.new hp ⟨_,zal,d1.mono (Kp.new hp)⟩)⟩⟩
noncomputable def Att(K:W.Frag)(C:Addr)(f:Str):Prop:=Cls K C/\zf1 K C f
theorem zir.lookup{K:KW}{H:Hp}{f:Str}:∀ {xs:List (Str×V)} {fs:List (Str×T)} {t:T},zir K H xs fs->fs.lookup f=some t->∃ v,xs.lookup f=some v/\Den K H v t
 | _,_,_,.nil,e=>by simp at e
 | (g,x)::xs,(g',y)::fs,t,.cons ⟨e1,d⟩ r,e=>by
  simp only at e1 d
  subst e1
  rw[List.lookup_cons]at e ⊢
  cases hb:f==g with
  | true=>rw[hb]at e; cases e; exact⟨x,rfl,d⟩
  | false=>rw[hb]at e; exact zir.lookup r e
theorem zir.lookupN{K:KW}{H:Hp}{f:Str}:∀ {xs:List (Str×V)} {fs:List (Str×T)},zir K H xs fs->fs.lookup f=none->xs.lookup f=none
 | _,_,.nil,e=>rfl
 | (g,x)::xs,(g',y)::fs,.cons ⟨e1,d⟩ r,e=>by
  simp only at e1 d
  subst e1
  rw[List.lookup_cons]at e ⊢
  cases hb:f==g with
  | true=>rw[hb]at e; cases e
  | false=>rw[hb]at e; exact zir.lookupN r e
theorem zir.length{K:KW}{H:Hp}{xs:List (Str×V)}{fs:List (Str×T)}(h:zir K H xs fs):xs.length=fs.length:=Paired.length h
noncomputable def zgx(f:Str)(t:T):List (Str×T)->List (Str×T)
 | []=>[(f,t)]
 | (g,x)::r=>match f==g with
  | true=>(g,t)::r
  | false=>(g,x)::zgx f t r
theorem zir.put{K:KW}{H:Hp}{f:Str}{v:V}{t:T}(d:Den K H v t):∀ {xs:List (Str×V)} {fs:List (Str×T)},zir K H xs fs->zir K H (zg3 f v xs) (zgx f t fs)
 | _,_,.nil=>.cons ⟨rfl,d⟩ .nil
 | (g,x)::xs,(g',y)::fs,.cons ⟨e1,d'⟩ r=>by
  simp only at e1 d'
  subst e1
  unfold zg3 zgx
  by_cases z:g=f
  ·subst z
   rw[if_pos rfl,beq_self_eq_true]
   exact .cons ⟨rfl,d⟩ r
  ·rw[if_neg z,beq_eq_false_iff_ne.mpr (Ne.symm z)]
   exact .cons ⟨rfl,d'⟩ (zir.put d r)
noncomputable def fldAt(K:W.Frag)(x:T)(G:Gp)(f:Str)(Q:VK3):Prop:=match x with
 | .ref p=>(match G p with
  | some (.ins C fs)=>(match fs.lookup f with
   | some v=>Att K C f/\Q v G
   | none=>False)
  | _=>False)
 | _=>False
noncomputable def zbC(K:W.Frag)(ta:TE3)(f:Str):TE3:=λτ G Q=>ta τ G λx G1=>fldAt K x G1 f Q
theorem zbW{f:Str}(he:QE X e ta)(hb:attributeBase e f X.env (eval e X.env)=eval e X.env:=by rfl):QE X (.Attribute e f pos) (zbC X.K ta f):=(pe_fld he hb).imp λσ H Q hu=>by
 obtain⟨τ,G,Q3,s,r,h,i⟩:=hu
 refine⟨τ,G,_,s,r,h,λx G1 v H1 h1 k1 d1 r1=>?_⟩
 cases d1 with
 | ref q =>
  simp only[fldAt]at h1
  split at h1
  ·rename_i C fs e1
   split at h1
   ·rename_i y e2
    obtain⟨dx,xs,e3,F⟩:=r1 q _ e1
    obtain⟨w,e4,d⟩:=F.lookup e2
    exact⟨q,C,dx,xs,w,rfl,e3,h1.1.1,h1.1.2,e4,i y G1 w H1 h1.2 k1 d r1⟩
   ·exact h1.elim
  ·exact h1.elim
 | _=>exact False.elim h1
noncomputable def zjx(K:W.Frag)(x y:T)(f:Str)(G:Gp)(Q:Gp->Prop):Prop:=match x with
 | .ref p=>(match G p with
  | some (.ins C fs)=>Att K C f/\fs.length < 1000/\Q (updG G p (.ins C (zgx f y fs)))
  | _=>False)
 | _=>False
noncomputable def zaq(K:W.Frag)(ta tv:TE3)(f:Str):TS3:=λD τ G=>tv τ G λy G1=>ta τ G1 λx G2=>zjx K x y f G2 (D.nx τ)
theorem zay{f:Str}{v:Expr}{pos':Pos}(ha:QE X o ta)(hv:QE X v tv)(hs:swapsWith v (some (.Attribute o f pos')) pos.line X.env=pure false:=by rfl):QS X (.Assign [.Attribute o f pos'] v pos) (zaq X.K ta tv f) :=
 (ps_fld ha hv hs).imp λD σ H hu=>by
  obtain⟨τ,G,D3,s,r,h,i⟩:=hu
  refine⟨τ,G,_,s,r,h,λy G1 v H1 h1 k1 d1 r1=>⟨τ,G1,_,s.mono k1,r1,h1,λx G2 u H2 h2 k2 d2 r2=>?_⟩⟩
  cases d2 with
  | ref q =>
   simp only[zjx]at h2
   split at h2
   ·rename_i C fs e1
    obtain⟨dx,xs,e3,F⟩:=r2 q _ e1
    have km:Kp H2 (upd H2 q (.ins C dx (zg3 f v xs))):=Kp.mut (by rw[e3]; trivial)
    refine⟨q,C,dx,xs,rfl,e3,h2.1.1,h2.1.2,by rw[F.length]; exact h2.2.1,?_⟩
    exact i.nx τ _ σ _ h2.2.2 ((k1.trans k2).trans km) (s.mono ((k1.trans k2).trans km)) (r2.put e1 ⟨dx,_,zal,(F.put (d1.mono k2)).mono km⟩)
   ·exact h2.elim
  | _=>exact False.elim h2
noncomputable abbrev Sp3:=List T->Gp->VK3->Prop
noncomputable def lSp(K:KW)(sp:Sp3):Sp:=λvs H Q _=>∃ ts G Q3,Dens K H vs ts/\HR K H G/\sp ts G Q3/\Imp K H Q3 Q
noncomputable abbrev FOk(P:Program)(w:World)(K:W.Frag)(mg:Str->Option Value)(base:Heap)(k:Nat)(f:Addr)(fd:FuncData)(ps:List Str)(sp:Sp3):Prop:=FnOk P w K mg base CX0 k f fd ps (lSp ⟨K,w,P⟩ sp)
theorem ok3{P:Program}{w:World}{K:W.Frag}{mg:Str->Option Value}{base:Heap}{x qual:Str}{st:Stmt}{f:Addr}{fd:FuncData}{N ps:List Str}{k:Nat}{sp:Sp3}(F:Fun K x qual st f fd)(S:FnScope N ps (zac st))
  (len:∀ ts G Q,sp ts G Q->ts.length=ps.length)
  (hbody:∀ (cdv:Value) (A:Around) (outer:List Env) (s:Shared) (H:Hp) (E:XK),Room k (A.deeper (envOfC qual (zac st) s.heap.objs.size f cdv)) ->
   ∃ t,QSs (cxOf CX0 P w K mg base N qual (zac st) f cdv A outer s H E).nox (zdn st) t/\∀ ts G Q,sp ts G Q->t { nx:=λ_ G'=>Q .non G',rt:=Q } (zad N.length ts) G) :
  FOk P w K mg base (k+1) f fd ps sp:=by
 refine F.ok S (λvs H Q E hu=>(by obtain⟨ts,G,Q3,d,_,h,_⟩:=hu; exact d.length.trans (len ts G Q3 h))) (λcdv A outer s H vs Q E hr h=>?_)
 obtain⟨ts,G,Q3,d,r,h,i⟩:=h
 obtain⟨t,h1,h2⟩:=hbody cdv A outer s H E hr
 refine⟨_,h1,zad N.length ts,G,_,Sts.start N d,r,h2 ts G Q3 h,?_⟩
 exact⟨λτ G' σ' H' q k _ r'=>i _ G' _ H' q k .non r',i,λ_ _ _ _ q _ _ _=>False.elim q,λ_ _ _ _ q _ _ _=>False.elim q⟩
noncomputable def zaw(sp:Sp3)(t:TA3):TE3:=λτ G Q=>t τ G λts G1=>sp ts G1 Q
section
variable {k:Nat}{f C:Addr}{fd:FuncData}{ps:List Str}{sp:Sp3}{x m:Str}
theorem lcall{K:KW}{σ:L2.St}{H:Hp}{Q:VK}(h:lE K (zaw sp t) σ H Q):tCall (lSp K sp) [] E0 (lA K t) σ H Q:=by
 obtain⟨τ,G,Q3,s,r,h,i⟩:=h
 exact⟨τ,G,_,s,r,h,λts G1 vs H1 h1 k1 d1 r1=>⟨ts,G1,Q3,by rw[List.append_nil]; exact d1,r1,h1,i.mono k1⟩⟩
theorem qcall(F:FOk X.prog X.w X.K X.mg X.base k f fd ps sp)(hr:Room k X.A)(hm:X.mg x=some (.ref f))(hk:W.keepIn X.K (.ref f)=true)(hb:zcl X.K fd ps [])
  (ha:QA X (e::es) t) (hg:Gl X x:=by rfl) (hdb:(x==("__debug__":Str))=false:=by decide) (he:starEach (e::es) X.env=(false,eval e X.env)::starEach es X.env:=by rfl) (hpl:(backTo pos (starEach es X.env)).any (·.1)=false:=by rfl) :
  QE X (.Call (.Name x p) (e::es) [] pos) (zaw sp t):=(pe_call F hr hg hm hk hb .nil pass0 ha hdb he hpl).imp λσ H Q h=>lcall h
noncomputable def zg6(x:T)(C:Addr)(m:Str)(G:Gp)(Q:Prop):Prop:=match x with
 | .ref p=>(match G p with
  | some (.ins C' fs)=>(C'=C/\fs.lookup m=none)/\Q
  | _=>False)
 | _=>False
noncomputable def zaW(C:Addr)(m:Str)(sp:Sp3)(ta:TE3)(t:TA3):TE3:=λτ G Q=>ta τ G λx G1=>zg6 x C m G1 (t τ G1 λts G2=>sp (x::ts) G2 Q)
theorem lmeth{K:KW}{σ:L2.St}{H:Hp}{Q:VK}(h:lE K (zaW C m sp ta t) σ H Q):tMeth C m (lSp K sp) [] E0 (lE K ta) (lA K t) σ H Q:=by
 obtain⟨τ,G,Q3,s,r,h,i⟩:=h
 refine⟨τ,G,_,s,r,h,λx G1 v H1 h1 k1 d1 r1=>?_⟩
 cases d1 with
 | ref q =>
  simp only[zg6]at h1
  split at h1
  ·rename_i C' fs e1
   obtain⟨⟨e2,e3⟩,h1⟩:=h1
   subst e2
   obtain⟨dx,xs,e4,F⟩:=r1 q _ e1
   refine⟨q,dx,xs,rfl,e4,F.lookupN e3,?_⟩
   exact⟨τ,G1,_,s.mono k1,r1,h1,λts G2 vs H2 h2 k2 d2 r2=>⟨.ref q::ts,G2,Q3,by rw[List.append_nil]; exact .cons (.ref q) d2,r2,h2,i.mono (k1.trans k2)⟩⟩
  ·exact h1.elim
 | _=>exact False.elim h1
theorem qmeth{pl:Sem Bool}(he:QE X o ta)(c:Cls X.K C)(hm:Meth X.K C m f)(F:FOk X.prog X.w X.K X.mg X.base k f fd ps sp)(hr:Room k X.A)(hb:zcl X.K fd ps [])(ha:QA X (e::es) t)
  (hst:starEach (e::es) X.env=(false,eval e X.env)::starEach es X.env:=by rfl) (hpl:(backTo pos (starEach es X.env)).any (·.1)=false:=by rfl)
  (ht:eval (.Call (.Attribute o m apos) (e::es) [] pos) X.env=(do
   let ov <- eval o X.env
   standAt apos.atName
   let (f,first) <- holding [ov] (getMethod ov m pl)
   callWith pos f first (backTo pos (starEach (e::es) X.env)) (backToKw pos (keywordEach [] X.env))):=by rfl) :
  QE X (.Call (.Attribute o m apos) (e::es) [] pos) (zaW C m sp ta t):=(pe_meth he c hm F hr hb .nil pass0 ha hst hpl ht).imp λσ H Q h=>lmeth h
noncomputable def zaz(C:Addr)(m:Str)(sp:Sp3)(ta:TE3):TE3:=λτ G Q=>ta τ G λx G1=>zg6 x C m G1 (sp [x] G1 Q)
theorem qmeth0{pl:Sem Bool}(he:QE X o ta)(c:Cls X.K C)(hm:Meth X.K C m f)(F:FOk X.prog X.w X.K X.mg X.base k f fd ps sp)(hr:Room k X.A)(hb:zcl X.K fd ps [])
  (ht:eval (.Call (.Attribute o m apos) [] [] pos) X.env=(do
   let ov <- eval o X.env
   standAt apos.atName
   let (f,first) <- holding [ov] (getMethod ov m pl)
   callWith pos f first (backTo pos (starEach [] X.env)) (backToKw pos (keywordEach [] X.env))):=by rfl) :
  QE X (.Call (.Attribute o m apos) [] [] pos) (zaz C m sp ta):=(pe_meth0 he c hm F hr hb .nil pass0 ht).imp λσ H Q h=>by
 have h':lE X.kw (zaW C m sp ta zat) σ H Q:=h
 have:=lmeth h'
 obtain⟨τ,G,Q3,s,r,h,i⟩:=h
 refine⟨τ,G,_,s,r,h,λx G1 v H1 h1 k1 d1 r1=>?_⟩
 cases d1 with
 | ref q =>
  simp only[zg6]at h1
  split at h1
  ·rename_i C' fs e1
   obtain⟨⟨e2,e3⟩,h1⟩:=h1
   subst e2
   obtain⟨dx,xs,e4,F⟩:=r1 q _ e1
   exact⟨q,dx,xs,rfl,e4,F.lookupN e3,⟨[.ref q],G1,Q3,.cons (.ref q) .nil,r1,h1,i.mono k1⟩⟩
  ·exact h1.elim
 | _=>exact False.elim h1
noncomputable def zcL(C:Addr)(sp:Sp3)(t:TA3):TE3:=λτ G Q=>t τ G λts G1=>∀ x,G1 x=none->sp (.ref x::ts) (updG G1 x (.ins C [])) λv G2=>match v with
 | .non=>Q (.ref x) G2
 | _=>False
theorem lmake{K:KW}{σ:L2.St}{H:Hp}{Q:VK}(h:lE K (zcL C sp t) σ H Q):tMake C (lSp K sp) [] E0 (lA K t) σ H Q:=by
 obtain⟨τ,G,Q3,s,r,h,i⟩:=h
 refine⟨τ,G,_,s,r,h,λts G1 vs H1 h1 k1 d1 r1 x dx nx ndx ne=>?_⟩
 have nx':(upd H1 dx (.own x)) x=none:=by rw[zak (Ne.symm ne)]; exact nx
 have kk:Kp H1 (upd (upd H1 dx (.own x)) x (.ins C dx [])):=(Kp.new ndx).trans (Kp.new nx')
 refine⟨.ref x::ts,_,_,by rw[List.append_nil]; exact .cons (.ref x) (d1.mono kk),(r1.lay ndx).new (o:=.ins C []) nx' ⟨dx,[],zal,.nil⟩,h1 x (r1.free nx),λy G' v H' q k d r'=>?_⟩
 cases d with
 | non=>exact⟨rfl,i _ G' _ H' q ((k1.trans kk).trans k) (.ref x) r'⟩
 | _=>exact False.elim q
theorem qmake(M:Mk X.K C f)(F:FOk X.prog X.w X.K X.mg X.base k f fd ps sp)(hr:Room (k+1) X.A)(hm:X.mg x=some (.ref C))(hb:zcl X.K fd ps [])(ha:QA X (e::es) t)
  (hg:Gl X x:=by rfl) (hdb:(x==("__debug__":Str))=false:=by decide) (he:starEach (e::es) X.env=(false,eval e X.env)::starEach es X.env:=by rfl) (hpl:(backTo pos (starEach es X.env)).any (·.1)=false:=by rfl) :
  QE X (.Call (.Name x p) (e::es) [] pos) (zcL C sp t):=(pe_make M F hr hg hm hb .nil pass0 ha hdb he hpl).imp λσ H Q h=>lmake h
theorem qmake0(M:Mk X.K C f)(F:FOk X.prog X.w X.K X.mg X.base k f fd ps sp)(hr:Room (k+1) X.A)(hm:X.mg x=some (.ref C))(hb:zcl X.K fd ps [])
  (hg:Gl X x:=by rfl) (hdb:(x==("__debug__":Str))=false:=by decide) :
  QE X (.Call (.Name x p) [] [] pos) (zcL C sp zat):=(pe_make0 M F hr hg hm hb .nil pass0 hdb).imp λσ H Q h=>by
 have:=lmake h
 obtain⟨τ,G,Q3,s,r,h,i⟩:=h
 refine λx dx nx ndx ne=>?_
 have nx':(upd H dx (.own x)) x=none:=by rw[zak (Ne.symm ne)]; exact nx
 have kk:Kp H (upd (upd H dx (.own x)) x (.ins C dx [])):=(Kp.new ndx).trans (Kp.new nx')
 refine⟨[.ref x],_,_,.cons (.ref x) .nil,(r.lay ndx).new (o:=.ins C []) nx' ⟨dx,[],zal,.nil⟩,h x (r.free nx),λy G' v H' q k d r'=>?_⟩
 cases d with
 | non=>exact⟨rfl,i _ G' _ H' q (kk.trans k) (.ref x) r'⟩
 | _=>exact False.elim q
end
noncomputable def LC(K:KW)(r3:List T->Gp->VK3->Prop)(r:List V->Hp->VK->Prop):Prop:=∀ H G xs ts Q Q3,Dens K H xs ts->HR K H G->r3 ts G Q3->Imp K H Q3 Q->r xs H Q
noncomputable def wCB(r3:List T->Gp->VK3->Prop)(t:TA3):TE3:=λτ G Q=>t τ G λts G1=>r3 ts G1 Q
theorem lCB{K:KW}{r3:List T->Gp->VK3->Prop}{r:List V->Hp->VK->Prop}(l:LC K r3 r){σ:L2.St}{H:Hp}{Q:VK}(h:lE K (wCB r3 t) σ H Q):tCB r (lA K t) σ H Q:=by
 obtain⟨τ,G,Q3,s,r,h,i⟩:=h
 exact⟨τ,G,_,s,r,h,λts G1 vs H1 h1 k1 d1 r1=>l H1 G1 vs ts Q Q3 d1 r1 h1 (i.mono k1)⟩
theorem zgv{x:Str}{id:String}{r3:List T->Gp->VK3->Prop}{r:List V->Hp->VK->Prop}(hc:zcV X (.builtin id) r)(l:LC X.kw r3 r)(hm:X.mg x=none)(hv:bootBuiltins x=some (.builtin id))(ha:QA X (e::es) t)(hg:Gl X x:=by rfl)(hn:x≠"__name__":=by decide) (hdb:(x==("__debug__":Str))=false:=by decide)
  (he:starEach (e::es) X.env=(false,eval e X.env)::starEach es X.env:=by rfl) (hpl:(backTo pos (starEach es X.env)).any (·.1)=false:=by rfl):QE X (.Call (.Name x p) (e::es) [] pos) (wCB r3 t) :=
 (zg4 hc hg hm hv ha hn hdb he hpl).imp λσ H Q h=>lCB l h
theorem qcallTy{x:Str}{ty:String}{r3:List T->Gp->VK3->Prop}{r:List V->Hp->VK->Prop}(hc:zcV X (.type ty) r)(l:LC X.kw r3 r)(hm:X.mg x=none)(hv:bootBuiltins x=some (.type ty))(ha:QA X (e::es) t)(hg:Gl X x:=by rfl)(hn:x≠"__name__":=by decide) (hdb:(x==("__debug__":Str))=false:=by decide)
  (he:starEach (e::es) X.env=(false,eval e X.env)::starEach es X.env:=by rfl) (hpl:(backTo pos (starEach es X.env)).any (·.1)=false:=by rfl):QE X (.Call (.Name x p) (e::es) [] pos) (wCB r3 t) :=
 (pe_callTy hc hg hm hv ha hn hdb he hpl).imp λσ H Q h=>lCB l h
noncomputable def zaF(x:T)(G:Gp):Option (List T):=match x with
 | .tup ts=>some ts
 | .fro ts=>some ts
 | .ref p=>(match G p with
  | some (.lst ts)=>some ts
  | _=>none)
 | _=>none
theorem zft{K:KW}{H:Hp}{G:Gp}{v:V}{x:T}{ts:List T}(d:Den K H v x)(r:HR K H G)(h:zaF x G=some ts):∃ p xs,v=.ref p/\(SqL K.k H p xs∨SqT K.k H p xs)/\Dens K H xs ts:=by
 cases d with
 | tup q ds=>cases h; exact⟨_,_,rfl,.inr q,ds⟩
 | fro q ds=>cases h; exact⟨_,_,rfl,.inl q.sq,ds⟩
 | ref a =>
  simp only[zaF]at h
  split at h
  ·rename_i us e; cases h
   obtain⟨xs,e1,ds⟩:=r a _ e
   exact⟨a,xs,rfl,.inl (SqL.of e1),ds⟩
  ·cases h
 | _=>cases h
noncomputable def ix3:R3:=λx y G Q=>match y with
 | .int i=>(match zaF x G with
  | some ts=>(match atI ts i with
   | some v=>Q v G
   | none=>False)
  | none=>False)
 | _=>False
theorem atI_den{K:KW}{H:Hp}{xs:List V}{ts:List T}{i:Int}{t:T}(d:Dens K H xs ts)(h:atI ts i=some t):∃ v,atI xs i=some v/\Den K H v t:=by
 unfold atI at h ⊢
 rw[d.length]
 cases e:ixN ts.length i with
 | none=>rw[e]at h; cases h
 | some j =>
  rw[e]at h
  exact d.get h
end
structure ItOk(K:KW)(H1:Hp)(J:It)(ts:List T)(S:Gp->Prop):Prop where
 go:∀ i H G,Kp H1 H->HR K H G->S G->i < ts.length->J.go i H
 yld:∀ i H G x H',Kp H1 H->HR K H G->S G->i < ts.length->J.yld i H x H'->Kp H H'/\HR K H' G/\∃ t,ts[i]?=some t/\Den K H' x t
 stop:∀ i H G,Kp H1 H->HR K H G->S G->ts.length<=i->J.stop i H
noncomputable abbrev TI3:=St3->Gp->(List T->(Gp->Prop)->Gp->Prop)->Prop
noncomputable def lIt(K:KW)(it:TI3):TI:=λσ H R=>∃ τ G Q3,Sts K H σ τ/\HR K H G/\it τ G Q3/\∀ ts S G' J H',Q3 ts S G'->Kp H H'->HR K H' G'->ItOk K H' J ts S->R J H'
noncomputable abbrev QI(X:Cx)(tg iter:Expr)(it:TI3):Prop:=PI X tg iter (lIt X.kw it)
noncomputable def forL(g:TG3)(tb:TS3)(S:Gp->Prop):List T->TS3
 | []=>λD τ G=>S G/\D.nx τ G
 | x::r=>λD τ G=>S G/\g x τ G λτ' G'=>tb { D with nx:=forL g tb S r D,ct:=forL g tb S r D,bk:=D.nx } τ' G'
noncomputable def wFor(it:TI3)(g:TG3)(tb:TS3):TS3:=λD τ G=>it τ G λts S G1=>forL g tb S ts D τ G1
section
variable {X:Cx}{tg iter:Expr}{body:List Stmt}{it:TI3}{g:TG3}{tb:TS3}{pos:Pos}
theorem _root_.L2.PI.imp{wi wi':TI}(h:PI X tg iter wi)(i:∀ σ H R,wi' σ H R->wi σ H R):PI X tg iter wi':=λpins s σ H R I q=>h pins s σ H R I (i _ _ _ q)
theorem qfor(hi:QI X tg iter it)(hg:QG X tg g)(hb:QSs X body tb)(hp:PassesOwn (model X.prog X.w) X.A X.env X.xe:=by exact PassesOwn.never)(hc:X.calm=true:=by rfl)
  (hs:∀ x,foldedSetIterable iter X.env x=pure x:=by intro _; rfl):QS X (.For tg iter body [] pos) (wFor it g tb):=(ps_for hp hc hi hg hb hs).imp λD σ H hu=>by
 obtain⟨τ,G,D3,s,r,h,i⟩:=hu
 refine⟨τ,G,_,s,r,h,λts S G1 J H1 h1 k1 r1 ok=>?_⟩
 refine⟨λj m σ' H'=>m=ts.length - j/\j<=ts.length/\Kp H1 H'/\∃ τ' G',Sts X.kw H' σ' τ'/\HR X.kw H' G'/\forL g tb S (ts.drop j) D3 τ' G',⟨_,rfl,Nat.zero_le _,Kp.refl _,τ,G1,s.mono k1,r1,by simpa using h1⟩,?_⟩
 rintro j m σ' H' ⟨rfl,hj,k,τ',G',s',r',h'⟩
 by_cases hlt:j < ts.length
 ·obtain⟨x,hx⟩:∃ x,ts[j]?=some x:=⟨ts[j],by simp[hlt]⟩
  have ed:ts.drop j=x::ts.drop (j+1):=by
   rw[List.drop_eq_getElem_cons hlt]
   congr 1
   rw[List.getElem?_eq_getElem hlt]at hx
   exact Option.some.inj hx
  rw[ed]at h'
  obtain⟨hS,h'⟩:=h'
  refine .inr ⟨ok.go j H' G' k r' hS hlt,λσ2 H2=>Kp H1 H2/\∃ τ2 G2,Sts X.kw H2 σ2 τ2/\HR X.kw H2 G2/\forL g tb S (ts.drop (j+1)) D3 τ2 G2,λσ2 H2 hu=>(by obtain⟨k2,q2⟩:=hu; exact⟨_,by lia,rfl,hlt,k2,q2⟩),λy H2 hy=>?_⟩
  obtain⟨k2,r2,t,et,dt⟩:=ok.yld j H' G' y H2 k r' hS hlt hy
  rw[hx]at et; cases et
  refine⟨x,τ',G',_,dt,s'.mono k2,r2,h',λτ3 G3 σ3 H3 q3 k3 s3 r3=>?_⟩
  have kk:Kp H H3:=(k1.trans k).trans (k2.trans k3)
  refine⟨τ3,G3,_,s3,r3,q3,⟨λτ4 G4 σ4 H4 q4 k4 s4 r4=>⟨(k.trans k2).trans (k3.trans k4),τ4,G4,s4,r4,q4⟩,i.rt.mono kk,i.nx.mono kk,λτ4 G4 σ4 H4 q4 k4 s4 r4=>⟨(k.trans k2).trans (k3.trans k4),τ4,G4,s4,r4,q4⟩⟩⟩
 ·have ed:ts.drop j=[]:=List.drop_eq_nil_of_le (by lia)
  rw[ed]at h'
  obtain⟨hS,h'⟩:=h'
  exact .inl ⟨ok.stop j H' G' k r' hS (by lia),i.nx τ' G' σ' H' h' (k1.trans k) s' r'⟩
variable {l:Expr}{tl:TE3}{p:Pos}{a b:Expr}{t:TA3}
noncomputable def zeq(tl:TE3):TI3:=λτ G R=>tl τ G λx G1=>match x with
 | .tup ts=>R ts (λ_=>True) G1
 | .fro ts=>R ts (λ_=>True) G1
 | .ref q=>(match G1 q with
  | some (.lst ts)=>R ts (λG=>G q=some (.lst ts)) G1
  | _=>False)
 | _=>False
noncomputable def zcH(lo hi:Int):List T:=(List.range (hi - lo).toNat).map λ(k:Nat)=>T.int (lo+k)
theorem itr_ok{K:KW}{H1:Hp}{lo hi:Int}:ItOk K H1 (Itr lo (hi - lo).toNat) (zcH lo hi) (λ_=>True) where
 go:=λi H G _ _ _ hk=>by
  have e:(zcH lo hi).length=(hi - lo).toNat:=by simp[zcH]
  show i < (hi - lo).toNat
  lia
 yld:=λi H G x H' _ r _ hk hy=>by
  obtain⟨e1,e2⟩:=hy
  subst e1; subst e2
  have e:(zcH lo hi).length=(hi - lo).toNat:=by simp[zcH]
  have hi':i < (hi - lo).toNat:=by lia
  refine⟨Kp.refl _,r,.int (lo+i),?_,.int _⟩
  unfold zcH
  rw[List.getElem?_map,List.getElem?_range hi']
  rfl
 stop:=λi H G _ _ _ hk=>by
  have e:(zcH lo hi).length=(hi - lo).toNat:=by simp[zcH]
  show(hi - lo).toNat<=i
  lia
noncomputable def iR1(t:TA3):TI3:=λτ G R=>t τ G λts G1=>match ts with
 | [.int j]=>(-(2 ^ 62)<=j/\j < 2 ^ 62)/\R (zcH 0 j) (λ_=>True) G1
 | _=>False
noncomputable def iR2(t:TA3):TI3:=λτ G R=>t τ G λts G1=>match ts with
 | [.int i,.int j]=>(-(2 ^ 62)<=i/\i < 2 ^ 62/\-(2 ^ 62)<=j/\j < 2 ^ 62)/\R (zcH i j) (λ_=>True) G1
 | _=>False
theorem qi_r1(hm:X.mg "range"=none) (ha:QA X [a] t) (hg:Gl X "range":=by rfl) (hs:starEach [a] X.env=[(false,eval a X.env)]:=by rfl):QI X tg (.Call (.Name "range" p) [a] [] pos) (iR1 t) :=
 (pi_range1 hg hm ha hs).imp λσ H R hu=>by
  obtain⟨τ,G,Q3,s,r,h,i⟩:=hu
  refine⟨τ,G,_,s,r,h,λts G1 vs H1 h1 k1 d1 r1=>?_⟩
  split at h1
  ·rename_i j
   cases d1 with
   | cons d d2 =>
    cases d2; cases d
    refine⟨j,rfl,h1.1.1,h1.1.2,i _ _ G1 _ H1 h1.2 k1 r1 ?_⟩
    have:=itr_ok (K:=X.kw) (H1:=H1) (lo:=0) (hi:=j)
    rwa [show(j - 0).toNat=j.toNat by rw[Int.sub_zero]]at this
  ·exact h1.elim
theorem qi_r2(hm:X.mg "range"=none) (ha:QA X [a,b] t) (hg:Gl X "range":=by rfl) (hs:starEach [a,b] X.env=[(false,eval a X.env),(false,eval b X.env)]:=by rfl) (hs2:starEach [b] X.env=[(false,eval b X.env)]:=by rfl) :
  QI X tg (.Call (.Name "range" p) [a,b] [] pos) (iR2 t) :=
 (pi_range2 hg hm ha hs hs2).imp λσ H R hu=>by
  obtain⟨τ,G,Q3,s,r,h,i⟩:=hu
  refine⟨τ,G,_,s,r,h,λts G1 vs H1 h1 k1 d1 r1=>?_⟩
  split at h1
  ·rename_i lo hi
   cases d1 with
   | cons d d2 =>
    cases d2 with
    | cons d' d3 =>
     cases d3; cases d; cases d'
     exact⟨lo,hi,rfl,h1.1,i _ _ G1 _ H1 h1.2 k1 r1 itr_ok⟩
  ·exact h1.elim
end
noncomputable def zdq(sel:List (Option Nat))(τ:St3):St3:=sel.map λo=>o.bind λj=>(τ[j]?).join
theorem Sts.vis{K:KW}{H:Hp}{σ:L2.St}{τ:St3}(s:Sts K H σ τ):∀ (sel:List (Option Nat)),Sts K H (visS sel σ) (zdq sel τ)
 | []=>.nil
 | none::r=>.no (Sts.vis s r)
 | some j::r=>by
  show Sts K H ((σ[j]?).join::visS r σ) ((τ[j]?).join::zdq r τ)
  cases e:(τ[j]?).join with
  | none=>exact .no (Sts.vis s r)
  | some t =>
   have e':τ[j]?=some (some t):=by
    cases q:τ[j]? with
    | none=>rw[q]at e; cases e
    | some z=>rw[q]at e; simp at e; rw[e]
   obtain⟨v,e2,d⟩:=s.get e'
   rw[e2]
   exact .yes d (Sts.vis s r)
noncomputable def zfU(g:TG3)(tc:TT3)(te:TE3)(S:Gp->Prop):List T->St3->List T->Gp->(List T->Gp->Prop)->Prop
 | [],_,acc,G,Q=>S G/\Q acc G
 | x::r,τ,acc,G,Q=>S G/\g x τ G λτ2 G2=>tc τ2 G2 λb G3=>if b=true then te τ2 G3 λy G4=>zfU g tc te S r τ (acc++[y]) G4 Q else zfU g tc te S r τ acc G3 Q
noncomputable def zbX(sel:List (Option Nat))(it:TI3)(g:TG3)(tc:TT3)(te:TE3):TE3:=λτ G Q=>it τ G λts S G1=>ts.length<=1000000/\zfU g tc te S ts (zdq sel τ) [] G1 λacc G2=>∀ d,G2 d=none->Q (.ref d) (updG G2 d (.lst acc))
noncomputable def zai:TT3:=λ_ G Q=>Q true G
section
variable {X:Cx}{scope:Scope}{N:List Str}{sel:List (Option Nat)}{elt target iter:Expr}{ifs:List Expr}{it:TI3}{g:TG3}{tc:TT3}{te:TE3}{pos:Pos}
theorem lcomp{σ:L2.St}{H:Hp}{Q:VK}(h:lE X.kw (zbX sel it g tc te) σ H Q):tComp sel (lIt X.kw it) (lG X.kw g) (lT X.kw tc) (lE X.kw te) σ H Q:=by
 obtain⟨τ,G,Q3,s,r,h,i⟩:=h
 refine⟨τ,G,_,s,r,h,λts S G1 J H1 h1 k1 r1 ok=>?_⟩
 obtain⟨hz,h1⟩:=h1
 have hl:(1000000:Nat) < sizeLine:=by rw[sizeLine_eq]; decide
 refine⟨λj m acc H'=>m=ts.length - j/\j<=ts.length/\acc.length<=j/\Kp H1 H'/\∃ acc3 G',Dens X.kw H' acc acc3/\HR X.kw H' G'/\zfU g tc te S (ts.drop j) (zdq sel τ) acc3 G' λacc G2=>∀ d,G2 d=none->Q3 (.ref d) (updG G2 d (.lst acc)),
  ⟨_,rfl,Nat.zero_le _,Nat.le_refl _,Kp.refl _,[],G1,.nil,r1,by simpa using h1⟩,?_⟩
 rintro j m acc H' ⟨rfl,hj,ha,k,acc3,G',d',r',h'⟩
 refine⟨by lia,?_⟩
 by_cases hlt:j < ts.length
 ·obtain⟨x,hx⟩:∃ x,ts[j]?=some x:=⟨ts[j],by simp[hlt]⟩
  have ed:ts.drop j=x::ts.drop (j+1):=by
   rw[List.drop_eq_getElem_cons hlt]
   congr 1
   rw[List.getElem?_eq_getElem hlt]at hx
   exact Option.some.inj hx
  rw[ed]at h'
  obtain⟨hS,h'⟩:=h'
  refine .inr ⟨ok.go j H' G' k r' hS hlt,λy H2 hy=>?_⟩
  obtain⟨k2,r2,t,et,dt⟩:=ok.yld j H' G' y H2 k r' hS hlt hy
  rw[hx]at et; cases et
  have kk:=(k1.trans k).trans k2
  refine⟨x,zdq sel τ,G',_,dt,(s.mono kk).vis sel,r2,h',λτ3 G3 σ3 H3 q3 k3 s3 r3=>?_⟩
  refine⟨τ3,G3,_,s3,r3,q3,λb G4 H4 q4 k4 r4=>?_⟩
  cases b with
  | false =>
   rw[if_neg Bool.false_ne_true]at q4 ⊢
   exact⟨_,by lia,rfl,hlt,by lia,((k.trans k2).trans k3).trans k4,acc3,G4,d'.mono ((k2.trans k3).trans k4),r4,q4⟩
  | true =>
   rw[if_pos rfl]at q4 ⊢
   refine⟨τ3,G4,_,s3.mono k4,r4,q4,λz G5 v H5 q5 k5 d5 r5=>?_⟩
   exact⟨_,by lia,rfl,hlt,by simp; lia,(((k.trans k2).trans k3).trans k4).trans k5,acc3++[z],G5,(d'.mono (((k2.trans k3).trans k4).trans k5)).append (.cons d5 .nil),r5,q5⟩
 ·have ed:ts.drop j=[]:=List.drop_eq_nil_of_le (by lia)
  rw[ed]at h'
  obtain⟨hS,h'⟩:=h'
  refine .inl ⟨ok.stop j H' G' k r' hS (by lia),λd hd=>?_⟩
  have kn:=Kp.new (o:=.lst acc) hd
  exact i _ _ _ _ (h' d (r'.free hd)) ((k1.trans k).trans kn) (.ref d) (r'.new (o:=.lst acc3) hd ⟨acc,zal,d'.mono kn⟩)
noncomputable abbrev QIfs(X:Cx)(ifs:List Expr)(t:TT3):Prop:=PIfs X ifs (lT X.kw t)
theorem qifs0{X:Cx}:QIfs X [] zai:=λpins s σ H Q I h=>by
 obtain⟨τ,G,Q3,s',r,h,i⟩:=h
 exact pifs_nil pins s σ H Q I (i true G H h (Kp.refl _) r)
theorem qifs1{X:Cx}{c:Expr}{t:TT3}(hc:QT X c t):QIfs X [c] t:=pifs_one hc
theorem zg1(N:List Str)(sel:List (Option Nat))(B:BlkOk X scope N sel)(hi:QI X target iter it)
  (hg:∀ fp s H C,QG (blk X scope N fp s H C) target g) (ht:∀ fp s H C,QIfs (blk X scope N fp s H C) ifs tc) (he:∀ fp s H C,QE (blk X scope N fp s H C) elt te)
  (hs:∀ x,foldedSetIterable iter X.env x=pure x:=by intro _; rfl) (hc:X.calm=true:=by rfl):QE X (.ListComp elt [⟨target,iter,ifs,0⟩] scope pos) (zbX sel it g tc te) :=
 (pe_comp hc B hi hg ht he hs).imp λσ H Q h=>lcomp h
theorem qsetcomp(i:Nat)(N:List Str)(sel:List (Option Nat)){y:Str}{py spos:Pos}(hN:X.N.Nodup)(B:BlkOk X scope N sel)(hi:QI X target iter it)
  (hg:∀ fp s H C,QG (blk X scope N fp s H C) target g) (ht:∀ fp s H C,QIfs (blk X scope N fp s H C) ifs tc) (he:∀ fp s H C,QE (blk X scope N fp s H C) elt te)
  (hy:X.N[i]?=some y:=by rfl) (hx:Loc X.env.scope y:=by first | exact Or.inl rfl | exact Or.inr rfl)
  (hsw:swapsWith (.ListComp elt [⟨target,iter,ifs,0⟩] scope pos) (some (.Name y py)) spos.line X.env=pure true:=by rfl)
  (hs:∀ x,foldedSetIterable iter X.env x=pure x:=by intro _; rfl) (hf:X.fn y=true∨X.env.scope.names.lookup y=some .local:=by first | exact .inl rfl | exact .inr rfl | assumption) (hc:X.calm=true:=by rfl) :
  QS X (.Assign [.Name y py] (.ListComp elt [⟨target,iter,ifs,0⟩] scope pos) spos) (zaZ (zbX sel it g tc te) i) :=
 (ps_setcomp hc hN hy hx B hi hg ht he hsw hs hf).imp λD σ H hu=>by
  obtain⟨τ,G,D3,s,r,h,j⟩:=hu
  refine lcomp ⟨τ,G,_,s,r,h,λx G1 v H1 h1 k1 d1 r1=>?_⟩
  exact j.nx _ G1 _ H1 h1 k1 ((s.mono k1).set d1 i) r1
end
noncomputable def zd8(f:T->Option PyData):List T->Option (List PyData)
 | []=>some []
 | t::r=>match f t,zd8 f r with
  | some d,some ds=>some (d::ds)
  | _,_=>none
noncomputable def toD(G:Gp):Nat->T->Option PyData
 | _,.non=>some .none
 | _,.bl b=>some (.bool b)
 | _,.int i=>some (.int i)
 | _,.str x=>if PyData.strOk x=true then some (.str x)else none
 | n+1,.tup ts=>(zd8 (toD G n) ts).map .tuple
 | n+1,.fro ts=>(zd8 (toD G n) ts).map .list
 | n+1,.ref p=>match G p with
  | some (.lst ts)=>(zd8 (toD G n) ts).map .list
  | _=>none
 | _,_=>none
section
variable {X:Cx}{pins:List (Addr×Obj)}{σ:L2.St}{H:Hp}{s:Shared}{G:Gp}
theorem zc5{f:T->Option PyData}{n:Nat}(hf:∀ t v u d,f t=some d->Den X.kw H v t->zaK v u->∃ as,Reads s.heap u d as/\d.canLay0=true/\d.depth<=n) :
  ∀ {ts:List T} {vs:List V} {us:List Value} {ds:List PyData},zd8 f ts=some ds->Dens X.kw H vs ts->zaM vs us->∃ as,ReadsAll s.heap us ds as/\PyData.canLayAll0 ds=true/\PyData.depthAll ds<=n
 | [],_,_,_,h,.nil,.nil=>by cases h; exact⟨_,.nil,rfl,Nat.zero_le _⟩
 | t::r,_,_,ds,h,.cons d dr,.cons rv rr=>by
  unfold zd8 at h
  split at h
  ·rename_i d1 ds1 e1 e2
   cases h
   obtain⟨as,r1,c1,p1⟩:=hf _ _ _ _ e1 d rv
   obtain⟨bs,r2,c2,p2⟩:=zc5 hf e2 dr rr
   refine⟨_,.cons r1 r2,?_,?_⟩
   ·simp only[PyData.canLayAll0,c1,c2,Bool.and_self]
   ·simp only[PyData.depthAll]; lia
  ·cases h
theorem zcY(I:Inv X pins σ H s)(r:HR X.kw H G):∀ (n:Nat) (t:T) (v:V) (u:Value) (d:PyData),toD G n t=some d->Den X.kw H v t->zaK v u->∃ as,Reads s.heap u d as/\d.canLay0=true/\d.depth<=n:=by
 intro n
 induction n with
 | zero =>
  intro t v u d h dn rv
  cases dn with
  | non=>simp only[toD]at h; cases h; cases rv; exact⟨_,.none,rfl,Nat.zero_le _⟩
  | bl b=>simp only[toD]at h; cases h; cases rv; exact⟨_,.bool b,rfl,Nat.zero_le _⟩
  | int i=>simp only[toD]at h; cases h; obtain⟨t,rfl⟩:=rv; exact⟨_,.int i t,rfl,Nat.zero_le _⟩
  | str x =>
   simp only[toD]at h
   split at h
   ·rename_i hx; cases h; obtain⟨t,rfl⟩:=rv; exact⟨_,.str x t,by simpa only [PyData.canLay0] using hx,Nat.zero_le _⟩
   ·cases h
  | ref a=>simp only[toD]at h; cases h
  | tup q ds=>simp only[toD]at h; cases h
  | fro q ds=>simp only[toD]at h; cases h
  | ty n=>simp only[toD]at h; cases h
 | succ n ih =>
  intro t v u d h dn rv
  cases dn with
  | non=>simp only[toD]at h; cases h; cases rv; exact⟨_,.none,rfl,Nat.zero_le _⟩
  | bl b=>simp only[toD]at h; cases h; cases rv; exact⟨_,.bool b,rfl,Nat.zero_le _⟩
  | int i=>simp only[toD]at h; cases h; obtain⟨t,rfl⟩:=rv; exact⟨_,.int i t,rfl,Nat.zero_le _⟩
  | str x =>
   simp only[toD]at h
   split at h
   ·rename_i hx; cases h; obtain⟨t,rfl⟩:=rv; exact⟨_,.str x t,by simpa only [PyData.canLay0] using hx,Nat.zero_le _⟩
   ·cases h
  | ref a =>
   simp only[toD]at h
   split at h
   ·rename_i ts e
    obtain⟨xs,e1,ds⟩:=r a _ e
    obtain⟨its,rr,⟨o,m,e2,c2,_,d2⟩,_⟩:=I.list (SqL.of e1)
    cases e3:zd8 (toD G n) ts with
    | none=>rw[e3]at h; cases h
    | some ys =>
     rw[e3]at h; cases h
     obtain⟨as,r1,c1,p1⟩:=zc5 ih e3 ds rr
     cases rv
     exact⟨_,.list e2 c2 d2 r1,by simpa only [PyData.canLay0] using c1,by simp only[PyData.depth]; lia⟩
   ·cases h
  | tup q ds =>
   rename_i a xs ts
   simp only[toD]at h
   obtain⟨its,rr,⟨o,e2,c2,m,d2⟩,_⟩:=I.tuple q
   cases e3:zd8 (toD G n) ts with
   | none=>rw[e3]at h; cases h
   | some ys =>
    rw[e3]at h; cases h
    obtain⟨as,r1,c1,p1⟩:=zc5 ih e3 ds rr
    cases rv
    exact⟨_,.tuple e2 c2 d2 r1,by simpa only [PyData.canLay0] using c1,by simp only[PyData.depth]; lia⟩
  | fro q ds =>
   rename_i a xs ts
   simp only[toD]at h
   obtain⟨its,rr,⟨o,m,e2,c2,_,d2⟩,_⟩:=I.list q.sq
   cases e3:zd8 (toD G n) ts with
   | none=>rw[e3]at h; cases h
   | some ys =>
    rw[e3]at h; cases h
    obtain⟨as,r1,c1,p1⟩:=zc5 ih e3 ds rr
    cases rv
    exact⟨_,.list e2 c2 d2 r1,by simpa only [PyData.canLay0] using c1,by simp only[PyData.depth]; lia⟩
  | ty n=>simp only[toD]at h; cases h
end
section
variable {X:Cx}{e a b c o:Expr}{es:List Expr}{pos apos p:Pos}{ta tb tv:TE3}{t:TA3}{k:Nat}
noncomputable def rD(K:KW)(f:PyData->PyData->Bool):R2:=λx y H Q=>∃ G tx ty dx dy,Den K H x tx/\Den K H y ty/\HR K H G/\toD G 20 tx=some dx/\toD G 20 ty=some dy/\Q (.bl (f dx dy)) H
noncomputable def wD(f:PyData->PyData->Bool):R3:=λx y G Q=>match toD G 20 x,toD G 20 y with
 | some dx,some dy=>Q (.bl (f dx dy)) G
 | _,_=>False
theorem lD{K:KW}{f:PyData->PyData->Bool}:LR K (wD f) (rD K f):=by
 intro H G x y x3 y3 Q Q3 dx dy r h i
 unfold wD at h
 split at h
 ·rename_i d1 d2 e1 e2
  exact⟨G,x3,y3,d1,d2,dx,dy,r,e1,e2,i _ G _ H h (Kp.refl _) (.bl _) r⟩
 ·exact h.elim
theorem op_eqD(hr:Room k X.A):OpR X (compareOp .Eq) (rD X.kw PyData.eqv):=by
 intro pins s σ H x y v u Q I rx ry h
 obtain⟨G,tx,ty,dx,dy,d1,d2,r,e1,e2,q⟩:=h
 obtain⟨as,r1,c1,p1⟩:=zcY I r 20 tx x v dx e1 d1 rx
 obtain⟨bs,r2,c2,p2⟩:=zcY I r 20 ty y u dy e2 d2 ry
 exact SeqAt.compareEq_reads r1 r2 c1 c2 (by have:=hr.un; lia) ⟨.bl _,H,I,rfl,q⟩
theorem op_neD(hr:Room k X.A):OpR X (compareOp .NotEq) (rD X.kw λa b=>!PyData.eqv a b):=by
 intro pins s σ H x y v u Q I rx ry h
 obtain⟨G,tx,ty,dx,dy,d1,d2,r,e1,e2,q⟩:=h
 obtain⟨as,r1,c1,p1⟩:=zcY I r 20 tx x v dx e1 d1 rx
 obtain⟨bs,r2,c2,p2⟩:=zcY I r 20 ty y u dy e2 d2 ry
 exact SeqAt.compareNe_reads r1 r2 c1 c2 (by have:=hr.un; lia) ⟨.bl _,H,I,rfl,q⟩
theorem qeq(hr:Room k X.A)(ha:QE X a ta)(hb:QE X b tb):QE X (.Compare a [.Eq] [b] pos) (wOp (wD PyData.eqv) ta tb):=qcmp (op_eqD hr) lD ha hb
theorem zhx(hr:Room k X.A)(ha:QE X a ta)(hb:QE X b tb):QT X (.Compare a [.Eq] [b] pos) (zan (wOp (wD PyData.eqv) ta tb)):=ziK (op_eqD hr) lD ha hb
theorem qtne(hr:Room k X.A)(ha:QE X a ta)(hb:QE X b tb):QT X (.Compare a [.NotEq] [b] pos) (zan (wOp (wD λa b=>!PyData.eqv a b) ta tb)):=ziK (op_neD hr) lD ha hb
noncomputable def zh7(x y:T)(G:Gp):Option Bool:=match zaF y G,toD G 20 x with
 | some ts,some d=>(zd8 (toD G 20) ts).map λds=>ds.any λz=>z.eqv d
 | _,_=>none
noncomputable def wInS(f:Bool->Bool):R3:=λx y G Q=>match zh7 x y G with
 | some k=>Q (.bl (f k)) G
 | none=>False
noncomputable def rInS(K:KW)(f:Bool->Bool):R2:=λx y H Q=>∃ G tx ty k,Den K H x tx/\Den K H y ty/\HR K H G/\zh7 tx ty G=some k/\Q (.bl (f k)) H
theorem lInS{K:KW}{f:Bool->Bool}:LR K (wInS f) (rInS K f):=by
 intro H G x y x3 y3 Q Q3 dx dy r h i
 unfold wInS at h
 split at h
 ·rename_i k e
  exact⟨G,x3,y3,k,dx,dy,r,e,i _ G _ H h (Kp.refl _) (.bl _) r⟩
 ·exact h.elim
open Classical in
theorem ze4{h:Heap}{d:PyData}:∀ {us:List Value} {ds:List PyData} {as:List Addr},ReadsAll h us ds as->PyData.canLayAll0 ds=true ->
  (us.any λu=>decide (∃ z as,Reads h u z as/\z.canLay0=true/\z.eqv d=true))=ds.any λz=>z.eqv d
 | _,_,_,.nil,_=>rfl
 | u::us,z::ds,_,.cons r1 r2,hc=>by
  have hc':(PyData.canLay0 z&&PyData.canLayAll0 ds)=true:=hc
  obtain⟨c1,c2⟩:=Bool.and_eq_true_iff.mp hc'
  rw[List.any_cons,List.any_cons,ze4 r2 c2]
  congr 1
  rw[Bool.eq_iff_iff,decide_eq_true_iff]
  constructor
  ·rintro⟨z',as',r',c',e'⟩
   have:=SeqAt.Reads.unique z z' u _ _ c1 r1 r'
   subst this; exact e'
  ·intro e; exact⟨z,_,r1,c1,e⟩
theorem ze0{h:Heap}:∀ {us:List Value} {ds:List PyData} {as:List Addr} {n:Nat} {u:Value},ReadsAll h us ds as->PyData.canLayAll0 ds=true->PyData.depthAll ds<=n->u∈us->∃ z bs,Reads h u z bs/\z.canLay0=true/\z.depth<=n
 | _,_,_,_,_,.nil,_,_,hm=>by simp at hm
 | u'::us,z::ds,_,n,u,.cons r1 r2,hc,hd,hm=>by
  have hc':(PyData.canLay0 z&&PyData.canLayAll0 ds)=true:=hc
  obtain⟨c1,c2⟩:=Bool.and_eq_true_iff.mp hc'
  have hd':max (PyData.depth z) (PyData.depthAll ds)<=n:=hd
  rcases List.mem_cons.mp hm with e | hm
  ·subst e; exact⟨z,_,r1,c1,by lia⟩
  ·exact ze0 r2 c2 (by lia) hm
open Classical in
theorem op_inS(hr:Room k X.A):OpR X (compareOp .In) (rInS X.kw id):=by
 intro pins s σ H x y v u Q I rx ry h
 obtain⟨G,tx,ty,kk,d1,d2,r,e,q⟩:=h
 unfold zh7 at e
 split at e
 ·rename_i ts d e1 e2
  cases e3:zd8 (toD G 20) ts with
  | none=>rw[e3]at e; cases e
  | some ds =>
   rw[e3]at e
   have e:(ds.any λz=>z.eqv d)=kk:=Option.some.inj e
   subst e
   obtain⟨as,r1,c1,p1⟩:=zcY I r 20 tx x v d e2 d1 rx
   obtain⟨p,xs,e4,sq,dd⟩:=zft d2 r e1
   subst e4
   cases ry
   have at_:∀ (its:List Value),zaM xs its->(∀ w',w'∈its.toArray->SeqAt.EqAt X.A.in1 s w' v (decide (∃ z as,Reads s.heap w' z as/\z.canLay0=true/\z.eqv d=true)))/\(its.toArray.any λw'=>decide (∃ z as,Reads s.heap w' z as/\z.canLay0=true/\z.eqv d=true))=ds.any λz=>z.eqv d:=λits rv=>by
    obtain⟨bs,ra,ca,pa⟩:=zc5 (zcY I r 20) e3 dd rv
    refine⟨λw' hm=>?_,?_⟩
    ·obtain⟨z,cs,rz,cz,pz⟩:=ze0 ra ca pa (by simpa using hm)
     have e5:decide (∃ z as,Reads s.heap w' z as/\z.canLay0=true/\z.eqv d=true)=z.eqv d:=by
      rw[Bool.eq_iff_iff,decide_eq_true_iff]
      constructor
      ·rintro⟨z',as',r',c',e'⟩
       have:=SeqAt.Reads.unique z z' w' _ _ cz rz r'
       subst this; exact e'
      ·intro e; exact⟨z,_,rz,cz,e⟩
     rw[e5]
     exact SeqAt.eqAt_reads z d X.A.in1 s w' v cs as rz r1 cz c1 (by have:=hr.un; show X.A.units+1+_ < _; lia)
    ·rw[<- ze4 ra ca]; simp
   rcases sq with sq | sq
   ·obtain⟨its,rv,pl,_⟩:=I.list sq
    obtain⟨h1,h2⟩:=at_ its rv
    exact SeqAt.in_listAt _ pl.isList h1 ⟨.bl _,H,I,by rw[h2]; rfl,q⟩
   ·obtain⟨its,rv,pl,_⟩:=I.tuple sq
    obtain⟨h1,h2⟩:=at_ its rv
    exact SeqAt.in_tupleAt _ pl h1 ⟨.bl _,H,I,by rw[h2]; rfl,q⟩
 ·cases e
open Classical in
noncomputable def zdy(x:T)(G:Gp):Option Bool:=match x with
 | .non=>some false
 | .bl b=>some b
 | .int i=>some (i != 0)
 | .tup ts=>some (!ts.isEmpty)
 | .fro ts=>some (!ts.isEmpty)
 | .ref p=>(match G p with
  | some (.lst ts)=>some (!ts.isEmpty)
  | some (.dK ts)=>some (!ts.isEmpty)
  | _=>none)
 | _=>none
noncomputable def zhw(ta:TE3):TT3:=λτ G Q=>ta τ G λx G1=>match zdy x G1 with
 | some b=>Q b G1
 | none=>False
theorem Dens.isEmpty{K:KW}{H:Hp}{xs:List V}{ts:List T}(d:Dens K H xs ts):xs.isEmpty=ts.isEmpty:=by cases d<;>rfl
theorem qtru(ha:QE X a ta)(he:∀ whole,isTrue a X.env whole=(do let v <- whole; standAt a.pos; holding [v] (truthy v)):=by intro _; rfl):QT X a (zhw ta):=(pt_truth ha he).imp λσ H Q hu=>by
 obtain⟨τ,G,Q3,s,r,h,i⟩:=hu
 refine⟨τ,G,_,s,r,h,λx G1 v H1 h1 k1 d1 r1=>?_⟩
 split at h1
 ·rename_i b e
  refine⟨b,?_,i b G1 H1 h1 k1 r1⟩
  cases d1 with
  | non=>cases e; exact rfl
  | bl c=>cases e; exact rfl
  | int j=>cases e; exact rfl
  | str x=>cases e
  | ty n=>cases e
  | tup q ds=>cases e; exact .inr (.inl ⟨_,q,by rw[ds.isEmpty]⟩)
  | fro q ds=>cases e; exact .inl ⟨_,q.sq,by rw[ds.isEmpty]⟩
  | ref p =>
   simp only[zdy]at e
   split at e
   ·rename_i ts e1; cases e
    obtain⟨xs,e2,ds⟩:=r1 p _ e1
    exact .inl ⟨_,SqL.of e2,by rw[ds.isEmpty]⟩
   ·rename_i ts e1; cases e
    obtain⟨xs,e2,ds⟩:=r1 p _ e1
    refine .inr (.inr ⟨_,e2,?_⟩)
    cases ds<;>rfl
   ·cases e
 ·exact h1.elim
noncomputable def mx3:List T->Gp->VK3->Prop:=λts G Q=>match ts with
 | [.int i,.int j]=>Q (.int (if j > i then j else i)) G
 | _=>False
noncomputable def mn3:List T->Gp->VK3->Prop:=λts G Q=>match ts with
 | [.int i,.int j]=>Q (.int (if j < i then j else i)) G
 | _=>False
theorem qmax2(hm:X.mg "max"=none) (ha:QA X (e::es) t) (hg:Gl X "max":=by rfl) (he:starEach (e::es) X.env=(false,eval e X.env)::starEach es X.env:=by rfl) (hpl:(backTo pos (starEach es X.env)).any (·.1)=false:=by rfl) (hc:X.calm=true:=by rfl) :
  QE X (.Call (.Name "max" p) (e::es) [] pos) (wCB mx3 t):=zgv (call_max2 hc) (λH G xs ts Q Q3 d r h i=>by
 unfold mx3 at h
 split at h
 ·cases d with
  | cons d1 d2=>cases d2 with
   | cons d3 d4=>cases d4; cases d1; cases d3; exact⟨_,_,rfl,i _ G _ H h (Kp.refl _) (.int _) r⟩
 ·exact h.elim) hm boot_max ha hg (by decide) (by decide) he hpl
theorem qmin2(hm:X.mg "min"=none) (ha:QA X (e::es) t) (hg:Gl X "min":=by rfl) (he:starEach (e::es) X.env=(false,eval e X.env)::starEach es X.env:=by rfl) (hpl:(backTo pos (starEach es X.env)).any (·.1)=false:=by rfl) (hc:X.calm=true:=by rfl) :
  QE X (.Call (.Name "min" p) (e::es) [] pos) (wCB mn3 t):=zgv (call_min2 hc) (λH G xs ts Q Q3 d r h i=>by
 unfold mn3 at h
 split at h
 ·cases d with
  | cons d1 d2=>cases d2 with
   | cons d3 d4=>cases d4; cases d1; cases d3; exact⟨_,_,rfl,i _ G _ H h (Kp.refl _) (.int _) r⟩
 ·exact h.elim) hm boot_min ha hg (by decide) (by decide) he hpl
noncomputable def app3(x:T)(ts:List T)(G:Gp)(Q:VK3):Prop:=match x,ts with
 | .ref p,[y]=>(match G p with
  | some (.lst us)=>us.length<=1000000/\Q .non (updG G p (.lst (us++[y])))
  | _=>False)
 | _,_=>False
noncomputable def ze7(x:T)(G:Gp)(Q:Prop):Prop:=match x with
 | .ref p=>(match G p with
  | some (.lst _)=>Q
  | _=>False)
 | _=>False
noncomputable def zit(ta:TE3)(t:TA3):TE3:=λτ G Q=>ta τ G λx G1=>ze7 x G1 (t τ G1 λts G2=>app3 x ts G2 Q)
theorem zg2(ho:QE X o ta)(ha:QA X (e::es) t)(hbase:attributeBase o "append" X.env (eval o X.env)=eval o X.env:=by rfl)
  (hfew:((backTo pos (starEach (e::es) X.env)).all (λx=>!x.1)&&(backToKw pos (keywordEach [] X.env)).all (λx=>x.1.isSome)
   && decide ((e::es).length+([]:List Keyword).length+(if ([]:List Keyword).isEmpty then 0 else 1) < 30))=true:=by rfl)
  (hline:(apos.endLine==pos.line)=true:=by rfl) (hs:starEach (e::es) X.env=(false,eval e X.env)::starEach es X.env:=by rfl) (hplain:(backTo pos (starEach es X.env)).any (·.1)=false:=by rfl) :
  QE X (.Call (.Attribute o "append" apos) (e::es) [] pos) (zit ta t) :=
 (pe_bm PySem.F.plainAttrs_list PySem.F.slot_list_append PySem.F.type_list_append mt_append ho ha hbase hfew hline hs hplain).imp λσ H Q hu=>by
  obtain⟨τ,G,Q3,s,r,h,i⟩:=hu
  refine⟨τ,G,_,s,r,h,λx G1 v H1 h1 k1 d1 r1=>?_⟩
  cases d1 with
  | ref p =>
   simp only[ze7]at h1
   split at h1
   ·rename_i us e1
    obtain⟨xs,e2,ds⟩:=r1 p _ e1
    refine⟨.inl ⟨rfl,_,SqL.of e2⟩,τ,G1,_,s.mono k1,r1,h1,λts G2 vs H2 h2 k2 d2 r2=>?_⟩
    simp only[app3]at h2
    cases d2 with
    | nil=>exact h2.elim
    | cons d3 d4 =>
     cases d4 with
     | cons d5 d6=>exact h2.elim
     | nil =>
      simp only at h2
      split at h2
      ·rename_i us' e5
       obtain⟨ys,e6,ds6⟩:=r2 p _ e5
       have km:∀ z,Kp H2 (upd H2 p (.lst z)):=λz=>Kp.mut (by rw[e6]; trivial)
       refine⟨p,ys,_,rfl,rfl,e6,?_,i _ _ _ _ h2.2 ((k1.trans k2).trans (km _)) .non (r2.put e5 ⟨_,zal,(ds6.append (.cons d3 .nil)).mono (km _)⟩)⟩
       have hl:(1000000:Nat) < sizeLine:=by rw[sizeLine_eq]; decide
       rw[ds6.length]
       exact Nat.lt_of_le_of_lt h2.1 hl
      ·exact h2.elim
   ·exact h1.elim
  | _=>exact False.elim h1
end
noncomputable def blkChk(scope:Scope)(N:List Str)(sel:List (Option Nat))(oN:List Str)(osc:Scope):Bool :=
 scope.kind==.function&&scope.names.all (λx=>x.2 != .local||scope.names.lookup x.1==some .local)&&scope.names.all (λx=>x.2 != .cell) &&
 scope.names.all (λx=>x.2 != .free||(osc.names.lookup x.1==some .cell||osc.names.lookup x.1==some .free))&&sel.length==N.length &&
 (List.zip sel N).all (λp=>match p.1 with
  | none=>true
  | some j=>oN[j]?==some p.2&&scope.names.lookup p.2==some .free)
theorem zgm{X:Cx}{scope:Scope}{N:List Str}{sel:List (Option Nat)}{oN:List Str}{osc:Scope}(hN:X.N=oN)(hsc:X.env.scope=osc)(c:blkChk scope N sel oN osc=true):BlkOk X scope N sel:=by
 simp only[blkChk,Bool.and_eq_true,List.all_eq_true]at c
 obtain⟨⟨⟨⟨⟨c1,c2⟩,c3⟩,c4⟩,c5⟩,c6⟩:=c
 have kk:∀ x,X.env.kindOf x=osc.names.lookup x:=λx=>by rw[<- hsc]; rfl
 refine⟨by simpa using c1,λx hx hl=>?_,λx hx hl=>?_,λx hx hl=>?_,by simpa using c5,λi j x h1 h2=>?_⟩
 ·have:=c2 x hx; simpa [hl] using this
 ·have:=c3 x hx; simp[hl]at this
 ·have:=c4 x hx; rw[kk]; simpa [hl] using this
 ·have hz:(some j,x)∈List.zip sel N:=by
   rw[List.mem_iff_getElem?]
   exact⟨i,by rw[List.getElem?_zip_eq_some]; exact⟨h1,h2⟩⟩
  have:=c6 _ hz
  simp only[Bool.and_eq_true,beq_iff_eq]at this
  rw[hN]; exact this
noncomputable def zck(P:Program)(w:World)(K:W.Frag)(mg:Str->Option Value)(base:Heap)(k:Nat)(x:Str)(ps:List Str)(sp:Sp3):Prop :=
 ∃ f fd,FOk P w K mg base k f fd ps sp/\mg x=some (.ref f)/\W.keepIn K (.ref f)=true/\zcl K fd ps []
noncomputable def za6(P:Program)(w:World)(K:W.Frag)(mg:Str->Option Value)(base:Heap)(k:Nat)(C:Addr)(m:Str)(ps:List Str)(sp:Sp3):Prop :=
 ∃ f fd,FOk P w K mg base k f fd ps sp/\Cls K C/\Meth K C m f/\zcl K fd ps []
noncomputable def MkAt(P:Program)(w:World)(K:W.Frag)(mg:Str->Option Value)(base:Heap)(k:Nat)(x:Str)(C:Addr)(ps:List Str)(sp:Sp3):Prop :=
 ∃ f fd,FOk P w K mg base k f fd ps sp/\mg x=some (.ref C)/\Mk K C f/\zcl K fd ps []
theorem zck.mono{P:Program}{w:World}{K:W.Frag}{mg:Str->Option Value}{base:Heap}{j k:Nat}{x:Str}{ps:List Str}{sp:Sp3}(F:zck P w K mg base j x ps sp)(h:j<=k):zck P w K mg base k x ps sp :=
 let ⟨f,fd,F,r⟩:=F; ⟨f,fd,FnOk.mono F h,r⟩
theorem za6.mono{P:Program}{w:World}{K:W.Frag}{mg:Str->Option Value}{base:Heap}{j k:Nat}{C:Addr}{m:Str}{ps:List Str}{sp:Sp3}(F:za6 P w K mg base j C m ps sp)(h:j<=k):za6 P w K mg base k C m ps sp :=
 let ⟨f,fd,F,r⟩:=F; ⟨f,fd,FnOk.mono F h,r⟩
theorem MkAt.mono{P:Program}{w:World}{K:W.Frag}{mg:Str->Option Value}{base:Heap}{j k:Nat}{x:Str}{C:Addr}{ps:List Str}{sp:Sp3}(F:MkAt P w K mg base j x C ps sp)(h:j<=k):MkAt P w K mg base k x C ps sp :=
 let ⟨f,fd,F,r⟩:=F; ⟨f,fd,FnOk.mono F h,r⟩
section
variable {X:Cx}{e a b c o:Expr}{es:List Expr}{pos apos p:Pos}{ta tb tv:TE3}{t:TA3}{k:Nat}{C:Addr}{ps:List Str}{sp:Sp3}{x m:Str}
theorem zbf(F:zck X.prog X.w X.K X.mg X.base k x ps sp)(hr:Room k X.A)(ha:QA X (e::es) t)(hg:Gl X x:=by rfl)(hdb:(x==("__debug__":Str))=false:=by decide)
  (he:starEach (e::es) X.env=(false,eval e X.env)::starEach es X.env:=by rfl) (hpl:(backTo pos (starEach es X.env)).any (·.1)=false:=by rfl) :
  QE X (.Call (.Name x p) (e::es) [] pos) (zaw sp t):=by
 obtain⟨f,fd,F,hm,hk,hb⟩:=F
 exact qcall F hr hm hk hb ha hg hdb he hpl
theorem zb2{pl:Sem Bool}(he:QE X o ta)(F:za6 X.prog X.w X.K X.mg X.base k C m ps sp)(hr:Room k X.A)(ha:QA X (e::es) t)
  (hst:starEach (e::es) X.env=(false,eval e X.env)::starEach es X.env:=by rfl) (hpl:(backTo pos (starEach es X.env)).any (·.1)=false:=by rfl)
  (ht:eval (.Call (.Attribute o m apos) (e::es) [] pos) X.env=(do
   let ov <- eval o X.env
   standAt apos.atName
   let (f,first) <- holding [ov] (getMethod ov m pl)
   callWith pos f first (backTo pos (starEach (e::es) X.env)) (backToKw pos (keywordEach [] X.env))):=by rfl) :
  QE X (.Call (.Attribute o m apos) (e::es) [] pos) (zaW C m sp ta t):=by
 obtain⟨f,fd,F,c,hm,hb⟩:=F
 exact qmeth he c hm F hr hb ha hst hpl ht
theorem zb7{pl:Sem Bool}(he:QE X o ta)(F:za6 X.prog X.w X.K X.mg X.base k C m ps sp)(hr:Room k X.A)
  (ht:eval (.Call (.Attribute o m apos) [] [] pos) X.env=(do
   let ov <- eval o X.env
   standAt apos.atName
   let (f,first) <- holding [ov] (getMethod ov m pl)
   callWith pos f first (backTo pos (starEach [] X.env)) (backToKw pos (keywordEach [] X.env))):=by rfl) :
  QE X (.Call (.Attribute o m apos) [] [] pos) (zaz C m sp ta):=by
 obtain⟨f,fd,F,c,hm,hb⟩:=F
 exact qmeth0 he c hm F hr hb ht
theorem cmake(F:MkAt X.prog X.w X.K X.mg X.base k x C ps sp)(hr:Room (k+1) X.A)(ha:QA X (e::es) t)(hg:Gl X x:=by rfl)(hdb:(x==("__debug__":Str))=false:=by decide)
  (he:starEach (e::es) X.env=(false,eval e X.env)::starEach es X.env:=by rfl) (hpl:(backTo pos (starEach es X.env)).any (·.1)=false:=by rfl) :
  QE X (.Call (.Name x p) (e::es) [] pos) (zcL C sp t):=by
 obtain⟨f,fd,F,hm,M,hb⟩:=F
 exact qmake M F hr hm hb ha hg hdb he hpl
theorem cmake0(F:MkAt X.prog X.w X.K X.mg X.base k x C ps sp)(hr:Room (k+1) X.A)(hg:Gl X x:=by rfl)(hdb:(x==("__debug__":Str))=false:=by decide) :
  QE X (.Call (.Name x p) [] [] pos) (zcL C sp zat):=by
 obtain⟨f,fd,F,hm,M,hb⟩:=F
 exact qmake0 M F hr hm hb hg hdb
end
noncomputable def kT:Key->T
 | .inl i=>.int i
 | .inr x=>.str x
noncomputable def zhm:T->Option Key
 | .int i=>some (.inl i)
 | .str x=>some (.inr x)
 | _=>none
noncomputable def a0Of:T->Option A0
 | .non=>some .non
 | .int i=>some (.int i)
 | .str x=>some (.str x)
 | _=>none
noncomputable def zjd:List T->Option (List A0)
 | []=>some []
 | t::r=>match a0Of t,zjd r with
  | some a,some l=>some (a::l)
  | _,_=>none
noncomputable def a1Of:T->Option A1
 | .tup ts=>(zjd ts).map .tup
 | .non=>some (.at .non)
 | .int i=>some (.at (.int i))
 | .str x=>some (.at (.str x))
 | _=>none
noncomputable def allA1:List T->Option LK
 | []=>some []
 | t::r=>match a1Of t,allA1 r with
  | some a,some l=>some (a::l)
  | _,_=>none
noncomputable def lkOf:T->Option LK
 | .tup ts=>allA1 ts
 | _=>none
theorem zjI{t:T}{k:Key}(h:zhm t=some k):t=kT k:=by
 cases t<;>simp only[zhm]at h
 all_goals first | (cases h; rfl) | cases h
theorem a0Of_eq{t:T}{a:A0}(h:a0Of t=some a):t=a0T a:=by
 cases t<;>simp only[a0Of]at h
 all_goals first | (cases h; rfl) | cases h
theorem zjV:∀ {ts:List T} {l:List A0},zjd ts=some l->ts=l.map a0T
 | [],l,h=>by cases h; rfl
 | t::r,l,h=>by
  unfold zjd at h
  split at h
  ·rename_i a m e1 e2; cases h; rw[a0Of_eq e1,zjV e2]; rfl
  ·cases h
theorem a1Of_eq{t:T}{a:A1}(h:a1Of t=some a):t=a1T a:=by
 cases t<;>simp only[a1Of]at h
 all_goals first | (cases h; rfl) | skip
 all_goals first | (cases h; done) | skip
 rename_i ts
 cases e:zjd ts with
 | none=>rw[e]at h; cases h
 | some l=>rw[e]at h; cases h; rw[zjV e]; rfl
theorem zjU:∀ {ts:List T} {l:LK},allA1 ts=some l->ts=l.map a1T
 | [],l,h=>by cases h; rfl
 | t::r,l,h=>by
  unfold allA1 at h
  split at h
  ·rename_i a m e1 e2; cases h; rw[a1Of_eq e1,zjU e2]; rfl
  ·cases h
theorem zhk{t:T}{k:LK}(h:lkOf t=some k):t=lkT k:=by
 cases t<;>simp only[lkOf]at h
 all_goals first | (cases h; done) | skip
 rw[zjU h]; rfl
theorem ziq:∀ l:List A0,zjd (l.map a0T)=some l
 | []=>rfl
 | a::r=>by
  have:a0Of (a0T a)=some a:=by cases a<;>rfl
  simp only[List.map_cons,zjd,this,ziq r]
theorem zio:∀ l:LK,allA1 (l.map a1T)=some l
 | []=>rfl
 | a::r=>by
  have:a1Of (a1T a)=some a:=by
   cases a with
   | «at» a=>cases a<;>rfl
   | tup l=>simp only[a1T,a1Of,ziq]; rfl
  simp only[List.map_cons,allA1,this,zio r]
theorem zjD(k:LK):lkOf (lkT k)=some k:=zio k
section
variable {X:Cx}{pins:List (Addr×Obj)}{σ:L2.St}{H:Hp}{s:Shared}{G:Gp}
theorem den_a0{a:A0}{v:V}{u:Value}(d:Den X.kw H v (a0T a))(r:zaK v u):a.val u:=by
 cases a with
 | non=>cases d; exact r
 | int i=>cases d; exact r
 | str x=>cases d; exact r
theorem dens_a0:∀ {l:List A0} {vs:List V} {us:List Value},Dens X.kw H vs (l.map a0T)->zaM vs us->Paired A0.val l us
 | [],_,_,.nil,.nil=>.nil
 | _::_,_,_,.cons d dr,.cons r rr=>.cons (den_a0 d r) (dens_a0 dr rr)
theorem den_a1(I:Inv X pins σ H s){a:A1}{v:V}{u:Value}(d:Den X.kw H v (a1T a))(r:zaK v u):a.val s.heap u:=by
 cases a with
 | «at» a=>exact den_a0 d r
 | tup l =>
  cases d with
  | tup q ds =>
   obtain⟨its,rv,⟨o,e,c,n,dd⟩,_⟩:=I.tuple q
   cases r
   exact⟨_,its.toArray,rfl,⟨o,n,e,c,dd⟩,by simpa using dens_a0 ds rv⟩
theorem dens_a1(I:Inv X pins σ H s):∀ {l:LK} {vs:List V} {us:List Value},Dens X.kw H vs (l.map a1T)->zaM vs us->Paired (A1.val s.heap) l us
 | [],_,_,.nil,.nil=>.nil
 | _::_,_,_,.cons d dr,.cons r rr=>.cons (den_a1 I d r) (dens_a1 I dr rr)
theorem zfR(I:Inv X pins σ H s){k:LK}{b:Addr}(d:Den X.kw H (.ref b) (lkT k)):ziY s.heap k b:=by
 generalize e:lkT k=t at d
 cases d with
 | ref=>cases e
 | fro=>cases e
 | tup q ds =>
  cases e
  obtain⟨its,rv,⟨o,e,c,n,dd⟩,_⟩:=I.tuple q
  exact⟨its.toArray,⟨o,n,e,c,dd⟩,by simpa using dens_a1 I ds rv⟩
end
section
variable {κ:Type} [DecidableEq κ]
noncomputable def zeK(kvs:List (κ×T))(k:κ)(v:T):List (κ×T):=if (kvs.any λkv=>decide (kv.1=k))=true then kvs.map (λkv=>if kv.1=k then (kv.1,v)else kv)else kvs++[(k,v)]
noncomputable def zdC(kvs:List (κ×T))(k:κ):Option T:=(kvs.find? λkv=>decide (kv.1=k)).map (·.2)
theorem zhP{kvs:List (κ×T)}{k:κ}{v:T}(h:k∉kvs.map (·.1)):zeK kvs k v=kvs++[(k,v)]:=by
 unfold zeK
 rw[if_neg]
 intro hany
 obtain⟨x,hx,e⟩:=List.any_eq_true.mp hany
 exact h (List.mem_map.mpr ⟨x,hx,of_decide_eq_true e⟩)
theorem putKT_old{kvs:List (κ×T)}{k:κ}{v:T}(h:k∈kvs.map (·.1)):zeK kvs k v=kvs.map (λkv=>if kv.1=k then (kv.1,v)else kv):=by
 unfold zeK
 rw[if_pos]
 obtain⟨x,hx,e⟩:=List.mem_map.mp h
 exact List.any_eq_true.mpr ⟨x,hx,decide_eq_true e⟩
end
section
variable {K:KW}{H H':Hp}
theorem zdW.any{k:Key}:∀ {xs:List (Key×V)} {kvs:List (Key×T)},zdW K H xs kvs->(xs.any λkv=>decide (kv.1=k))=kvs.any λkv=>decide (kv.1=k)
 | _,_,.nil=>rfl
 | _,_,.cons ⟨e,_⟩ r=>by rw[List.any_cons,List.any_cons,zdW.any r,e]
theorem zdW.repl{k:Key}{v:V}{t:T}(d:Den K H v t):∀ {xs:List (Key×V)} {kvs:List (Key×T)},zdW K H xs kvs->zdW K H (xs.map λkv=>if kv.1=k then (kv.1,v)else kv) (kvs.map λkv=>if kv.1=k then (kv.1,t)else kv)
 | _,_,.nil=>.nil
 | (a,x)::_,(b,y)::_,.cons ⟨e,d'⟩ r=>by
  simp only at e d'
  subst e
  refine .cons ?_ (zdW.repl d r)
  by_cases z:a=k
  ·simp only[z,if_true]; exact⟨trivial,d⟩
  ·simp only[z,if_false]; exact⟨trivial,d'⟩
theorem Paired.snoc'{α β:Type}{F:α->β->Prop}{a:α}{b:β}:∀ {l:List α} {r:List β},Paired F l r->F a b->Paired F (l++[a]) (r++[b])
 | _,_,.nil,h=>.cons h .nil
 | _,_,.cons p q,h=>.cons p (Paired.snoc' q h)
theorem zdW.put{k:Key}{v:V}{t:T}(d:Den K H v t){xs:List (Key×V)}{kvs:List (Key×T)}(r:zdW K H xs kvs):zdW K H (zjw xs k v) (zeK kvs k t):=by
 unfold zjw zeK
 rw[zdW.any r]
 split
 ·exact zdW.repl d r
 ·exact Paired.snoc' r ⟨rfl,d⟩
theorem zdW.val{k:Key}:∀ {xs:List (Key×V)} {kvs:List (Key×T)} {t:T},zdW K H xs kvs->zdC kvs k=some t->∃ v,ziD xs k=some v/\Den K H v t
 | _,_,_,.nil,e=>by cases e
 | (a,x)::xs,(b,y)::kvs,t,.cons ⟨e1,d⟩ r,e=>by
  simp only at e1 d
  subst e1
  unfold zdC at e
  unfold ziD
  rw[List.find?_cons]at e ⊢
  by_cases z:a=k
  ·simp only[z,decide_true]at e ⊢
   cases e
   exact⟨x,rfl,d⟩
  ·simp only[z,decide_false]at e ⊢
   exact zdW.val r e
theorem zdW.valN{k:Key}:∀ {xs:List (Key×V)} {kvs:List (Key×T)},zdW K H xs kvs->zdC kvs k=none->ziD xs k=none
 | _,_,.nil,e=>rfl
 | (a,x)::xs,(b,y)::kvs,.cons ⟨e1,d⟩ r,e=>by
  simp only at e1 d
  subst e1
  unfold zdC at e
  unfold ziD
  rw[List.find?_cons]at e ⊢
  by_cases z:a=k
  ·simp only[z,decide_true]at e; cases e
  ·simp only[z,decide_false]at e ⊢
   exact zdW.valN r e
theorem zdA.keys:∀ {kvs:List (LK×T)} {xs:List (LK×Addr×Value)},zdA K H kvs xs->kvs.map (·.1)=xs.map (·.1)
 | _,_,.nil=>rfl
 | _,_,.cons ⟨e,_⟩ r=>by rw[List.map_cons,List.map_cons,zdA.keys r,e]
theorem zdA.repl{k:LK}{v:V}{u:Value}{t:T}(d:Den K H v t)(rv:zaK v u):∀ {kvs:List (LK×T)} {xs:List (LK×Addr×Value)},zdA K H kvs xs->zdA K H (kvs.map λkv=>if kv.1=k then (kv.1,t)else kv) (xs.map (putAt k u))
 | _,_,.nil=>.nil
 | (a,y)::_,(b,c,z)::_,.cons ⟨e,d1,d2⟩ r=>by
  simp only at e
  subst e
  refine .cons ?_ (zdA.repl d rv r)
  unfold putAt
  by_cases q:a=k
  ·simp only[q,if_true]
   exact⟨trivial,q ▸ d1,v,rv,d⟩
  ·simp only[q,if_false]
   exact⟨trivial,d1,d2⟩
theorem zdQ{k:LK}:∀ {xs:List (LK×Addr×Value)},(atKey xs k).isSome=true↔k∈xs.map (·.1)
 | []=>by simp[atKey]
 | x::xs=>by
  have ih:=@zdQ k xs
  unfold atKey at ih ⊢
  rw[List.find?_cons]
  by_cases q:x.1=k
  ·simp[q]
  ·simp only[q,decide_false,List.map_cons,List.mem_cons]
   rw[ih]
   constructor
   ·exact .inr
   ·rintro (h | h)
    ·exact absurd h.symm q
    ·exact h
theorem zdA.put{k:LK}{b:Addr}{v:V}{u:Value}{t:T}(dk:Den K H (.ref b) (lkT k))(d:Den K H v t)(rv:zaK v u){kvs:List (LK×T)}{xs:List (LK×Addr×Value)}(r:zdA K H kvs xs):zdA K H (zeK kvs k t) (storedH xs k b u):=by
 unfold storedH
 by_cases q:k∈kvs.map (·.1)
 ·rw[putKT_old q,if_pos (zdQ.mpr (r.keys ▸ q))]
  exact zdA.repl d rv r
 ·rw[zhP q,if_neg (λz=>q (r.keys ▸ zdQ.mp z))]
  exact Paired.snoc' r ⟨rfl,dk,v,rv,d⟩
theorem zdA.length{kvs:List (LK×T)}{xs:List (LK×Addr×Value)}(r:zdA K H kvs xs):kvs.length=xs.length:=Paired.length r
end
noncomputable def set3(o i v:T)(G:Gp)(Q:Gp->Prop):Prop:=match o with
 | .ref p=>(match G p with
  | some (.lst ts)=>(match i with
   | .int k=>(match ixN ts.length k with
    | some j=>Q (updG G p (.lst (ts.set j v)))
    | none=>False)
   | _=>False)
  | some (.dK kvs)=>(match zhm i with
   | some k=>kvs.length<=1000000/\Q (updG G p (.dK (zeK kvs k v)))
   | none=>(match kvs,lkOf i with
    | [],some k=>zhy k=true/\Q (updG G p (.dT [(k,v)]))
    | _,_=>False))
  | some (.dT kvs)=>(match lkOf i with
   | some k=>zhy k=true/\kvs.length<=1000000/\Q (updG G p (.dT (zeK kvs k v)))
   | none=>False)
  | _=>False)
 | _=>False
noncomputable def rSet3(K:KW):TSet:=λo i v H Q=>∃ G to ti tv Q3,Den K H o to/\Den K H i ti/\Den K H v tv/\HR K H G/\set3 to ti tv G Q3/\∀ G' H',Q3 G'->Kp H H'->HR K H' G'->Q H'
section
variable {X:Cx}{k:Nat}
theorem zjC{pins:List (Addr×Obj)}{σ:L2.St}{H:Hp}{s:Shared}{p b:Addr}{u:Value}{kk:LK}{xs:List (LK×Addr×Value)}{E:Value->Shared->Prop}{Q:Unit->Shared->Prop}(hr:Room k X.A)(I:Inv X pins σ H s)(mu:Mut (H p))
  (raw:ziI X.prog X.w p xs s.heap) (his:∀ x∈xs,ziY s.heap x.1 x.2.1) (hk:ziY s.heap kk b) (ok:zhy kk=true) (sz:xs.length < sizeLine)
  (h:∀ s',Inv X pins σ (upd H p (.ext (ziI X.prog X.w p (storedH xs kk b u)))) s'->Q () s'):wpAny (model X.prog X.w) X.A (setItem (.ref p) (.ref b) u) Q E s:=by
 obtain⟨nd,_,oks,nod,o,es,ep,e1,e2,e3,e4⟩:=id raw
 have hD:s.heap.DictOfH (ze1 X.prog X.w) p xs:=⟨o,es,ep,e1,e2,e3,e4,λx hx=>⟨his x hx,oks x hx⟩,nod⟩
 refine wpAny_setItem_heap (hsz:=Nat.le_of_lt sz) (knd:=ze1 X.prog X.w) (show X.A.units+1+4 < cLine by have:=hr.un; lia) ⟨hk,ok⟩ hD λh' hD' sb=>h _ ?_
 obtain⟨o',es',ep',f1,f2,f3,f4,f5,f6⟩:=id hD'
 refine zi6 I mu sb ⟨o',f1⟩ (rawD_obj ⟨nd,?_,λx hx=>(f5 x hx).2,f6,o',es',ep',f1,f2,f3,f4⟩)
 unfold storedH
 split
 ·rw[List.length_map]; exact Nat.le_of_lt sz
 ·rw[List.length_append,List.length_singleton]; exact sz
theorem set_any(hr:Room k X.A):PSet X (rSet3 X.kw):=by
 intro pins s σ H o i v ov iv u Q I ro ri rv h
 obtain⟨G,to,ti,tv,Q3,d1,d2,d3,r,h,imp⟩:=h
 have hl:(1000000:Nat) < sizeLine:=by rw[sizeLine_eq]; decide
 cases d1 with
 | ref p =>
  simp only[set3]at h
  split at h
  ·rename_i ts e
   obtain⟨xs,e1,ds⟩:=r p _ e
   cases d2 with
   | int kk =>
    simp only at h
    split at h
    ·rename_i j ej
     have km:Kp H (upd H p (.lst (xs.set j v))):=Kp.mut (by rw[e1]; trivial)
     exact set_list pins s σ H _ _ v ov iv u Q I ro ri rv ⟨p,xs,kk,j,rfl,rfl,e1,by rw[ds.length]; exact ej,imp _ _ h km (r.put e ⟨_,zal,(ds.set d3 j).mono km⟩)⟩
    ·exact h.elim
   | _=>exact False.elim h
  ·rename_i kvs e
   obtain⟨xs,e1,ds⟩:=r p _ e
   split at h
   ·rename_i kk ek
    have e2:=zjI ek
    subst e2
    cases (show ov=Value.ref p from ro)
    have ey:i=kV kk:=by cases kk<;>cases d2<;>rfl
    have km:Kp H (upd H p (.dK (zjw xs kk v))):=Kp.mut (by rw[e1]; trivial)
    have hlen:xs.length=kvs.length:=Paired.length ds
    exact d_setItem (hu_of hr) I (ey ▸ DPut.k (k:=kk) (v:=v) e1 (by rw[hlen]; exact Nat.lt_of_le_of_lt h.1 hl)) ri rv λs' I'=>⟨_,I',imp _ _ h.2 km (r.put e ⟨_,zal,(zdW.put d3 ds).mono km⟩)⟩
   ·split at h
    ·rename_i kk ek
     have e2:=zhk ek
     subst e2
     cases ds
     cases (show ov=Value.ref p from ro)
     obtain⟨z,nd,vs,rel,o,es,ep,g1,g2,g3,g4,g5,g6⟩:=dk_of I.hok e1
     cases rel
     have es0:es.toList=[]:=List.length_eq_zero_iff.mp (by have:=g5.length; simpa using this)
     have raw:ziI X.prog X.w p [] s.heap:=⟨nd,Nat.zero_le _,λ_ hx=>by simp at hx,List.nodup_nil,o,es,ep,g1,g2,g3,by rw[es0]; rfl⟩
     generalize et:lkT kk=tk at d2
     have d2':=d2
     cases d2 with
     | tup q dd =>
      cases (show iv=Value.ref _ from ri)
      rw[<- et]at d2'
      refine zjC hr I (by rw[e1]; trivial) raw (λ_ hx=>by simp at hx) (zfR I d2') h.1 (by rw[sizeLine_eq]; decide) λs' I'=>?_
      have km:∀ z,Kp H (upd H p (.ext z)):=λz=>Kp.mut (by rw[e1]; trivial)
      exact⟨_,I',imp _ _ h.2 (km _) (r.put e ⟨_,zal,zdA.mono (km _) (zdA.put d2' d3 rv .nil)⟩)⟩
     | _=>cases et
    ·exact h.elim
  ·rename_i kvs e
   obtain⟨xs,e1,ds⟩:=r p _ e
   split at h
   ·rename_i kk ek
    have e2:=zhk ek
    subst e2
    cases (show ov=Value.ref p from ro)
    obtain⟨raw,_,_⟩:=I.hok p _ e1
    have his:∀ x∈xs,ziY s.heap x.1 x.2.1:=by
     intro x hx
     have:∀ {kvs:List (LK×T)} {xs:List (LK×Addr×Value)},zdA X.kw H kvs xs->x∈xs->Den X.kw H (.ref x.2.1) (lkT x.1):=by
      intro kvs xs r
      induction r with
      | nil=>intro h; simp at h
      | cons p _ ih =>
       intro h
       rcases List.mem_cons.mp h with q | q
       ·subst q; exact p.2.1
       ·exact ih q
     exact zfR I (this ds hx)
    generalize et:lkT kk=tk at d2
    have d2':=d2
    cases d2 with
    | tup q dd =>
     cases (show iv=Value.ref _ from ri)
     rw[<- et]at d2'
     refine zjC hr I (by rw[e1]; trivial) raw his (zfR I d2') h.1 (by rw[<- zdA.length ds]; exact Nat.lt_of_le_of_lt h.2.1 hl) λs' I'=>?_
     have km:∀ z,Kp H (upd H p (.ext z)):=λz=>Kp.mut (by rw[e1]; trivial)
     exact⟨_,I',imp _ _ h.2.2 (km _) (r.put e ⟨_,zal,zdA.mono (km _) (zdA.put d2' d3 rv ds)⟩)⟩
    | _=>cases et
   ·exact h.elim
  ·exact h.elim
 | _=>exact False.elim h
end
section
variable {X:Cx}{e a b c o i:Expr}{es:List Expr}{pos apos p:Pos}{ta tb tv to ti:TE3}{t:TA3}{k:Nat}
noncomputable def ziv(to ti:TE3):TG3:=λv τ G Q=>to τ G λo G1=>ti τ G1 λi G2=>set3 o i v G2 λG3=>Q τ G3
theorem qgsub(hr:Room k X.A)(ho:QE X o to)(hi:QE X i ti)(ha:∀ v,assign (.Subscript o i pos) X.env v=(do
   let ov <- holding [v] (eval o X.env)
   let iv <- holding [v,ov] (eval i X.env)
   standAt pos
   holding [v,ov,iv] (setItem ov iv v)
   release [v,ov,iv] []):=by intro _; rfl):QG X (.Subscript o i pos) (ziv to ti):=(pg_sub ho hi (set_any hr) ha).imp λv σ H Q hu=>by
 obtain⟨tv,τ,G,Q3,dv,s,r,h,im⟩:=hu
 refine⟨τ,G,_,s,r,h,λx G1 ov H1 h1 k1 d1 r1=>⟨τ,G1,_,s.mono k1,r1,h1,λy G2 iv H2 h2 k2 d2 r2=>?_⟩⟩
 exact⟨G2,x,y,tv,_,d1.mono k2,d2,dv.mono (k1.trans k2),r2,h2,λG' H' q k3 r3=>im τ G' σ H' q ((k1.trans k2).trans k3) (s.mono ((k1.trans k2).trans k3)) r3⟩
theorem zjs{v:Expr}{pos':Pos}(hr:Room k X.A)(hv:QE X v tv)(ho:QE X o to)(hi:QE X i ti)(ha:∀ v,assign (.Subscript o i pos') X.env v=(do
   let ov <- holding [v] (eval o X.env)
   let iv <- holding [v,ov] (eval i X.env)
   standAt pos'
   holding [v,ov,iv] (setItem ov iv v)
   release [v,ov,iv] []):=by intro _; rfl)
  (hs:swapsWithSole [.Subscript o i pos'] v pos.line X.env=pure false:=by rfl) (hw:swappedStores [.Subscript o i pos'] v X.env=pure none:=by rfl)
  (h1:(assignEach [.Subscript o i pos'] X.env).map (·.2)=[assign (.Subscript o i pos') X.env]:=by rfl):QS X (.Assign [.Subscript o i pos'] v pos) (zis tv (ziv to ti)):=qasg hv (qgsub hr ho hi ha) hs hw h1
noncomputable def zcN:TE3:=λ_ G Q=>∀ p,G p=none->Q (.ref p) (updG G p (.dK []))
theorem qdnew:QE X (.Dict [] [] pos) zcN:=pe_dnewK.imp λσ H Q hu=>(by obtain⟨τ,G,Q3,s,r,h,im⟩:=hu; exact λp hp=>im _ _ _ _ (h p (r.free hp)) (Kp.new hp) (.ref p) (r.new (o:=.dK []) hp ⟨[],zal,.nil⟩))
noncomputable def zbs(x:T)(G:Gp):Option (List T):=match x with
 | .tup ts=>some ts
 | .fro ts=>some ts
 | .ref p=>(match G p with
  | some (.lst ts)=>some ts
  | some (.dK kvs)=>some (kvs.map λkv=>kT kv.1)
  | some (.dT kvs)=>some (kvs.map λkv=>lkT kv.1)
  | _=>none)
 | _=>none
theorem rel_kV{kk:Key}{v:Value}(h:ziX kk v=true):zaK (kV kk) v:=by
 rcases zaI h with ⟨i,t,rfl,rfl⟩ | ⟨x,t,rfl,rfl⟩
 ·exact⟨_,rfl⟩
 ·exact⟨_,rfl⟩
theorem den_kT{K:KW}{H:Hp}(kk:Key):Den K H (kV kk) (kT kk):=by cases kk; exact .int _; exact .str _
theorem zea{P:Program}{w:World}:∀ {es:List DictEntry} {vs:List (Key×Value)} {xs:List (Key×V)},Pairs (zaE P w) es vs->KV xs vs->zaM (xs.map λx=>kV x.1) (es.map (·.key))
 | _,_,_,.nil,.nil=>.nil
 | _,_,(a,x)::xs,.cons h1 h2 r,.cons ⟨e,_⟩ q=>.cons (by simp only at e; subst e; exact rel_kV h1) (zea r q)
theorem zeu{K:KW}{H:Hp}:∀ {xs:List (Key×V)} {kvs:List (Key×T)},zdW K H xs kvs->Dens K H (xs.map λx=>kV x.1) (kvs.map λkv=>kT kv.1)
 | _,_,.nil=>.nil
 | _,_,.cons ⟨e,_⟩ r=>.cons (by dsimp only; rw[e]; exact den_kT _) (zeu r)
theorem zgp{P:Program}{w:World}(xs:List (LK×Addr×Value)):zaM (xs.map λx=>V.ref x.2.1) ((xs.map (entryOfKey (ze1 P w))).map (·.key)):=by
 induction xs with
 | nil=>exact .nil
 | cons x r ih=>exact .cons rfl ih
theorem zeX{K:KW}{H:Hp}:∀ {kvs:List (LK×T)} {xs:List (LK×Addr×Value)},zdA K H kvs xs->Dens K H (xs.map λx=>V.ref x.2.1) (kvs.map λkv=>lkT kv.1)
 | _,_,.nil=>.nil
 | _,_,.cons ⟨e,d,_⟩ r=>.cons (by dsimp only; rw[e]; exact d) (zeX r)
noncomputable def rTup3(K:KW):List V->Hp->VK->Prop:=λxs H Q=>∃ v G x us,xs=[v]/\Den K H v x/\HR K H G/\zbs x G=some us/\∀ w H',Kp H H'->Den K H' w (.tup us)->HR K H' G->Q w H'
theorem call_tup3(hc:X.calm=true):zcV X (.type "tuple") (rTup3 X.kw):=by
 intro pins s σ H xs us Q I r h
 obtain⟨v,G,x,ts,rfl,d,hr,e,q⟩:=h
 have base:(∃ ts',zaF x G=some ts'/\ts'=ts)->wpAny (model X.prog X.w) X.A (call (.type "tuple") us) (EP X pins σ Q) X.xe s:=by
  rintro⟨ts',e1,rfl⟩
  obtain⟨p,ys,e2,sq,ds⟩:=zft d hr e1
  subst e2
  refine zhr pins s σ H _ us Q I r ⟨p,ys,rfl,?_⟩
  rcases sq with sq | sq
  ·exact .inl ⟨sq,λl hl=>q _ _ (Kp.new hl) (.tup (SqT.of zal) (ds.mono (Kp.new hl))) (hr.lay hl)⟩
  ·exact .inr ⟨sq,q _ _ (Kp.refl _) (.tup sq ds) hr⟩
 cases d with
 | tup _ _=>exact base ⟨_,rfl,Option.some.inj e⟩
 | fro _ _=>exact base ⟨_,rfl,Option.some.inj e⟩
 | ref p =>
  obtain⟨u,rfl,ru⟩:=vals1 r
  cases ru
  simp only[zbs]at e
  split at e
  ·rename_i ts' eg; exact base ⟨ts',by simp only[zaF,eg],Option.some.inj e⟩
  ·rename_i kvs eg
   cases e
   obtain⟨ks,e1,ds⟩:=hr p _ eg
   obtain⟨z,nd,vs,rel,o,ees,ep,g1,g2,g3,g4,g5,g6⟩:=dk_of I.hok e1
   have hsz:ees.size=ks.length:=by
    have h1:=g5.length
    have h2:ks.length=vs.length:=Paired.length rel
    rw[Array.length_toList]at h1
    lia
   exact tupD hc I nd ⟨o,g1,g2,g3⟩ (zea g5 rel) (by rw[hsz]; exact z) λl hl=>q _ _ (Kp.new hl) (.tup (SqT.of zal) ((zeu ds).mono (Kp.new hl))) (hr.lay hl)
  ·rename_i kvs eg
   cases e
   obtain⟨xs,e1,ds⟩:=hr p _ eg
   obtain⟨⟨nd,sz,oks,nod,o,ees,ep,g1,g2,g3,g4⟩,_,_⟩:=I.hok p _ e1
   have hsz:ees.size=xs.length:=by rw[<- Array.length_toList,g4,List.length_map]
   exact tupD hc I nd ⟨o,g1,g2,g3⟩ (by rw[g4]; exact zgp xs) (by rw[hsz]; exact sz) λl hl=>q _ _ (Kp.new hl) (.tup (SqT.of zal) ((zeX ds).mono (Kp.new hl))) (hr.lay hl)
  ·cases e
 | _=>cases e
noncomputable def zgP:List T->Gp->VK3->Prop:=λts G Q=>match ts with
 | [x]=>(match zbs x G with
  | some us=>Q (.tup us) G
  | none=>False)
 | _=>False
theorem zg0(hm:X.mg "tuple"=none) (ha:QA X (e::es) t) (hg:Gl X "tuple":=by rfl) (he:starEach (e::es) X.env=(false,eval e X.env)::starEach es X.env:=by rfl) (hpl:(backTo pos (starEach es X.env)).any (·.1)=false:=by rfl) (hc:X.calm=true:=by rfl) :
  QE X (.Call (.Name "tuple" p) (e::es) [] pos) (wCB zgP t):=qcallTy (call_tup3 hc) (λH G xs ts Q Q3 d r h im=>by
 unfold zgP at h
 split at h
 ·cases d with
  | cons d1 d2 =>
   cases d2
   split at h
   ·rename_i us e
    exact⟨_,G,_,us,rfl,d1,r,e,λw H' kk dd rr=>im _ G _ H' h kk dd rr⟩
   ·exact h.elim
 ·exact h.elim) hm boot_tuple ha hg (by decide) (by decide) he hpl
noncomputable def zi8(kvs:List (Key×T))(y:T):Option (Option T):=match zhm y with
 | some kk=>some (zdC kvs kk)
 | none=>(match kvs,lkOf y with
  | [],some kk=>if zhy kk=true then some none else none
  | _,_=>none)
noncomputable def zi7(kvs:List (LK×T))(y:T):Option (Option T):=match lkOf y with
 | some kk=>if zhy kk=true then some (zdC kvs kk)else none
 | none=>none
noncomputable def zc7(x y:T)(G:Gp):Option (Option T):=match x with
 | .ref p=>(match G p with
  | some (.dK kvs)=>zi8 kvs y
  | some (.dF _ kvs)=>zi8 kvs y
  | some (.dT kvs)=>zi7 kvs y
  | some (.dG _ kvs)=>zi7 kvs y
  | _=>none)
 | _=>none
inductive DAsk(K:KW)(H:Hp)(p:Addr)(y:V)(o:Option V):Prop
 | k (g:DGet H p y o):DAsk K H p y o
 | t (b:Addr) (kk:LK) (xs:List (LK×Addr×Value)) (e:y=.ref b) (hr:Rd H p (.ext (ziI K.P K.w p xs))∨(xs=[]/\Rd H p (.dK []))) (ds:∀ x∈xs,Den K H (.ref x.2.1) (lkT x.1))
   (d:Den K H (.ref b) (lkT kk)) (ok:zhy kk=true) (ro:zgI o ((atKey xs kk).map (·.2))):DAsk K H p y o
theorem zfl{pins:List (Addr×Obj)}{σ:L2.St}{H:Hp}{s:Shared}{p:Addr}{xs:List (LK×Addr×Value)}(I:Inv X pins σ H s)(hr:Rd H p (.ext (ziI X.prog X.w p xs))∨(xs=[]/\Rd H p (.dK [])))
  (ds:∀ x∈xs,Den X.kw H (.ref x.2.1) (lkT x.1)):(p==sysModules)=false/\s.heap.DictOfH (ze1 X.prog X.w) p xs:=by
 rcases hr with hr | ⟨rfl,hr⟩
 ·obtain⟨⟨nd,_,oks,nod,o,es,ep,e1,e2,e3,e4⟩,_,_⟩:=hr.ok I.hok
  exact⟨nd,o,es,ep,e1,e2,e3,e4,λx hx=>⟨zfR I (ds x hx),oks x hx⟩,nod⟩
 ·obtain⟨z,nd,vs,rel,o,es,ep,g1,g2,g3,g4,g5,g6⟩:=hr.ok I.hok
  cases rel
  have es0:es.toList=[]:=List.length_eq_zero_iff.mp (by have:=g5.length; simpa using this)
  exact⟨nd,o,es,ep,g1,g2,g3,by rw[es0]; rfl,λx hx=>by simp at hx,List.nodup_nil⟩
section
variable {pins:List (Addr×Obj)}{σ:L2.St}{H:Hp}{s:Shared}{p:Addr}{y dv:V}{u r:Value}{ov:Option V}{E:Value->Shared->Prop}
theorem room4(hr:Room k X.A):X.A.units+1+4 < cLine:=by have:=hr.un; lia
theorem a_in{Q:Value->Shared->Prop}(hr:Room k X.A)(I:Inv X pins σ H s)(g:DAsk X.kw H p y ov)(ry:zaK y u)(h:∀ s',Inv X pins σ H s'->Q (.bool ov.isSome) s') :
  wpAny (model X.prog X.w) X.A (compareOp .In u (.ref p)) Q E s:=by
 rcases g with g | ⟨b,kk,xs,rfl,hd,ds,d,ok,ro⟩
 ·exact d_in (hu_of hr) I g ry h
 ·cases ry
  obtain⟨nd,dd⟩:=zfl I hd ds
  refine wpAny_in_heap (knd:=ze1 X.prog X.w) (room4 hr) ⟨zfR I d,ok⟩ nd dd ?_
  have q:=ro.isSome_eq
  rw[Option.isSome_map]at q
  rw[<- q]
  exact h _ (I.tok _)
theorem a_getItem{Q:Value->Shared->Prop}{v:V}(hr:Room k X.A)(I:Inv X pins σ H s)(g:DAsk X.kw H p y (some v))(ry:zaK y u)(h:∀ w' s',Inv X pins σ H s'->zaK v w'->Q w' s') :
  wpAny (model X.prog X.w) X.A (getItem (.ref p) u) Q E s:=by
 rcases g with g | ⟨b,kk,xs,rfl,hd,ds,d,ok,ro⟩
 ·exact d_getItem (hu_of hr) I g ry h
 ·cases ry
  obtain⟨nd,dd⟩:=zfl I hd ds
  obtain⟨w',hw,rw'⟩:=zgI.some_of (v:=v) (o:=(atKey xs kk).map (·.2)) ro
  obtain⟨pr,hp,hp2⟩:=Option.map_eq_some_iff.mp hw
  refine wpAny_getItem_heap (knd:=ze1 X.prog X.w) (room4 hr) ⟨zfR I d,ok⟩ dd hp ?_
  rw[hp2]
  exact h w' _ (I.tok _) rw'
theorem a_get2{Q:Value->Shared->Prop}(hr:Room k X.A)(I:Inv X pins σ H s)(g:DAsk X.kw H p y ov)(ry:zaK y u)(rd:zaK dv r)(h:∀ w' s',Inv X pins σ H s'->zaK (ov.getD dv) w'->Q w' s') :
  wpAny (model X.prog X.w) X.A (call (.builtin "dict.get") [.ref p,u,r]) Q E s:=by
 rcases g with g | ⟨b,kk,xs,rfl,hd,ds,d,ok,ro⟩
 ·exact d_get2 (hu_of hr) I g ry rd h
 ·cases ry
  obtain⟨nd,dd⟩:=zfl I hd ds
  exact call_meetsIn PySem.F.slot_dict_get dd.typeIs PySem.F.entry_dict_get (PySem.F.args_dict_get_3 _ _ _) (meetsH_dict_get_default (ze1 X.prog X.w) p b nd r) ⟨room4 hr,kk,xs,⟨zfR I d,ok⟩,dd,h _ _ (I.tok _) (ro.getD rd)⟩
theorem DAsk.type(I:Inv X pins σ H s)(g:DAsk X.kw H p y ov):s.TypeIs (.ref p) "dict"/\∀ b,Value.ref p=.ref b->∃ ob,s.heap.get? b=some ob/\ob.dict=none:=by
 rcases g with g | ⟨b,kk,xs,rfl,hd,ds,d,ok,ro⟩
 ·exact⟨zi4 I g,zi5 I g⟩
 ·obtain⟨nd,dd⟩:=zfl I hd ds
  refine⟨dd.typeIs,λc q=>?_⟩
  cases q
  obtain⟨ob,_,_,h1,h2,_⟩:=dd
  exact⟨ob,h1,h2.2.1⟩
end
theorem zdA.val{K:KW}{H:Hp}{kk:LK}:∀ {kvs:List (LK×T)} {xs:List (LK×Addr×Value)},zdA K H kvs xs ->
  (∃ t z u,zdC kvs kk=some t/\(atKey xs kk).map (·.2)=some u/\zaK z u/\Den K H z t)∨(zdC kvs kk=none/\(atKey xs kk).map (·.2)=none)
 | _,_,.nil=>.inr ⟨rfl,rfl⟩
 | (a,y)::kvs,(b,c,z)::xs,.cons ⟨e,_,v,rv,d⟩ r=>by
  simp only at e rv d
  subst e
  by_cases z:a=kk
  ·subst z
   exact .inl ⟨y,v,_,by simp[zdC],by simp[atKey],rv,d⟩
  ·rcases zdA.val (kk:=kk) r with ⟨t,v',u,h1,h2,h3,h4⟩ | ⟨h1,h2⟩
   ·exact .inl ⟨t,v',u,by simpa [zdC,z] using h1,by simpa [atKey,z] using h2,h3,h4⟩
   ·exact .inr ⟨by simpa [zdC,z] using h1,by simpa [atKey,z] using h2⟩
theorem zdA.dens{K:KW}{H:Hp}{kvs:List (LK×T)}{xs:List (LK×Addr×Value)}(r:zdA K H kvs xs):∀ x∈xs,Den K H (.ref x.2.1) (lkT x.1):=by
 induction r with
 | nil=>intro x h; simp at h
 | cons p _ ih =>
  intro x h
  rcases List.mem_cons.mp h with q | q
  ·subst q; exact p.2.1
  ·exact ih x q
theorem zid{K:KW}{H:Hp}{u:V}{y:T}{r:Option T}{p:Addr}{kvs:List (Key×T)}{ks:List (Key×V)}(rd:Rd H p (.dK ks))(ds:zdW K H ks kvs)(d2:Den K H u y)(h:zi8 kvs y=some r) :
  ∃ o,DAsk K H p u o/\((∃ t z,r=some t/\o=some z/\Den K H z t)∨(r=none/\o=none)):=by
 unfold zi8 at h
 split at h
 ·rename_i kk ek
  cases h
  have e2:=zjI ek
  subst e2
  have ey:u=kV kk:=by cases kk<;>cases d2<;>rfl
  refine⟨ziD ks kk,.k (.inl ⟨ks,kk,rd,ey,rfl⟩),?_⟩
  cases e3:zdC kvs kk with
  | some t=>obtain⟨z,e4,d4⟩:=zdW.val ds e3; exact .inl ⟨t,z,rfl,e4,d4⟩
  | none=>exact .inr ⟨rfl,zdW.valN ds e3⟩
 ·split at h
  ·rename_i kk ek
   split at h
   ·rename_i ok
    cases h
    cases ds
    have e2:=zhk ek
    subst e2
    generalize et:lkT kk=tk at d2
    have d2':=d2
    cases d2 with
    | tup q dd =>
     rw[<- et]at d2'
     exact⟨none,.t _ kk [] rfl (.inr ⟨rfl,rd⟩) (λ_ hx=>by simp at hx) d2' ok trivial,.inr ⟨rfl,rfl⟩⟩
    | _=>cases et
   ·cases h
  ·cases h
theorem zic{K:KW}{H:Hp}{u:V}{y:T}{r:Option T}{p:Addr}{kvs:List (LK×T)}{xs:List (LK×Addr×Value)}(rd:Rd H p (.ext (ziI K.P K.w p xs)))(ds:zdA K H kvs xs)(d2:Den K H u y)(h:zi7 kvs y=some r) :
  ∃ o,DAsk K H p u o/\((∃ t z,r=some t/\o=some z/\Den K H z t)∨(r=none/\o=none)):=by
 unfold zi7 at h
 split at h
 ·rename_i kk ek
  split at h
  ·rename_i ok
   cases h
   have e2:=zhk ek
   subst e2
   generalize et:lkT kk=tk at d2
   have d2':=d2
   cases d2 with
   | tup q dd =>
    rw[<- et]at d2'
    rcases zdA.val (kk:=kk) ds with ⟨t,z,w,h1,h2,h3,h4⟩ | ⟨h1,h2⟩
    ·exact⟨some z,.t _ kk xs rfl (.inl rd) ds.dens d2' ok (by rw[h2]; exact h3),.inl ⟨t,z,h1,rfl,h4⟩⟩
    ·exact⟨none,.t _ kk xs rfl (.inl rd) ds.dens d2' ok (by rw[h2]; trivial),.inr ⟨h1,rfl⟩⟩
   | _=>cases et
  ·cases h
 ·cases h
theorem zhq{K:KW}{H:Hp}{G:Gp}{v u:V}{x y:T}{r:Option T}(d1:Den K H v x)(d2:Den K H u y)(hr:HR K H G)(h:zc7 x y G=some r) :
  ∃ p o,v=.ref p/\DAsk K H p u o/\((∃ t z,r=some t/\o=some z/\Den K H z t)∨(r=none/\o=none)):=by
 cases d1 with
 | ref p =>
  simp only[zc7]at h
  split at h
  ·rename_i kvs eg
   obtain⟨ks,e1,ds⟩:=hr p _ eg
   obtain⟨o,h1,h2⟩:=zid (.inl e1) ds d2 h
   exact⟨p,o,rfl,h1,h2⟩
  ·rename_i ob kvs eg
   obtain⟨ks,e1,ds⟩:=hr p _ eg
   obtain⟨o,h1,h2⟩:=zid (.inr ⟨ob,e1⟩) ds d2 h
   exact⟨p,o,rfl,h1,h2⟩
  ·rename_i kvs eg
   obtain⟨ks,e1,ds⟩:=hr p _ eg
   obtain⟨o,h1,h2⟩:=zic (.inl e1) ds d2 h
   exact⟨p,o,rfl,h1,h2⟩
  ·rename_i ob kvs eg
   obtain⟨ks,e1,ds⟩:=hr p _ eg
   obtain⟨o,h1,h2⟩:=zic (.inr ⟨ob,e1⟩) ds d2 h
   exact⟨p,o,rfl,h1,h2⟩
  ·cases h
 | _=>cases h
noncomputable def wDIn(f:Bool->Bool):R3:=λy x G Q=>match zc7 x y G with
 | some r=>Q (.bl (f r.isSome)) G
 | none=>False
noncomputable def rDIn(K:KW)(f:Bool->Bool):R2:=λy x H Q=>∃ p o,x=.ref p/\DAsk K H p y o/\Q (.bl (f o.isSome)) H
theorem lDIn{K:KW}{f:Bool->Bool}:LR K (wDIn f) (rDIn K f):=by
 intro H G y x y3 x3 Q Q3 dy dx r h im
 unfold wDIn at h
 split at h
 ·rename_i rr e
  obtain⟨p,o,e1,g,e2⟩:=zhq dx dy r e
  refine⟨p,o,e1,g,?_⟩
  have:o.isSome=rr.isSome:=by
   rcases e2 with ⟨t,z,e3,e4,_⟩ | ⟨e3,e4⟩
   ·rw[e3,e4]; rfl
   ·rw[e3,e4]; rfl
  rw[this]
  exact im _ G _ H h (Kp.refl _) (.bl _) r
 ·exact h.elim
theorem op_dIn(hr:Room k X.A):OpR X (compareOp .In) (rDIn X.kw id):=by
 intro pins s σ H y x v u Q I ry rx h
 obtain⟨p,o,rfl,g,q⟩:=h
 cases rx
 exact a_in hr I g ry λs' I'=>⟨.bl _,H,I',rfl,q⟩
noncomputable def wInA(f:Bool->Bool):R3:=λx y G Q=>match zh7 x y G with
 | some kk=>Q (.bl (f kk)) G
 | none=>(match zc7 y x G with
  | some r=>Q (.bl (f r.isSome)) G
  | none=>False)
theorem lInA{K:KW}{f:Bool->Bool}:LR K (wInA f) (λx y H Q=>rInS K f x y H Q∨rDIn K f x y H Q):=by
 intro H G x y x3 y3 Q Q3 dx dy r h im
 unfold wInA at h
 split at h
 ·rename_i kk e
  exact .inl (lInS H G x y x3 y3 Q Q3 dx dy r (by unfold wInS; rw[e]; exact h) im)
 ·exact .inr (lDIn H G x y x3 y3 Q Q3 dx dy r h im)
theorem qtin(hr:Room k X.A)(ha:QE X a ta)(hb:QE X b tb)(hm:behindInMarks .In b=false:=by with_unfolding_all rfl):QT X (.Compare a [.In] [b] pos) (zan (wOp (wInA id) ta tb)):=ziK (OpR.or (op_inS hr) (op_dIn hr)) lInA ha hb hm
noncomputable def ixA:R3:=λx y G Q=>match zc7 x y G with
 | some (some v)=>Q v G
 | some none=>False
 | none=>ix3 x y G Q
theorem ix_dict(hr:Room k X.A):IxR X (λx y H Q=>∃ p v,x=.ref p/\DAsk X.kw H p y (some v)/\Q v H):=by
 intro value slice pins s σ H x y v u Q I rx ry h hs
 obtain⟨p,z,rfl,g,q⟩:=h
 cases rx
 exact tail_any (g.type I).1 PySem.F.slot_dict_getitem.lookup (a_getItem hr I g ry λw' s' I' rw'=>⟨z,H,I',rw',q⟩) hs
theorem zdz(hr:Room k X.A)(ha:QE X a ta)(hb:QE X b tb)(hs:PlainIx b:=by exact λ_ _=>rfl):QE X (.Subscript a b pos) (wOp ixA ta tb):=(pe_ix (IxR.or (ix_dict hr) (IxR.or ix_list ix_tup)) ha hb hs).imp λσ H Q h=>lOp (r3:=ixA) (λH G x y x3 y3 Q Q3 dx dy r h im=>by
  unfold ixA at h
  split at h
  ·rename_i w e
   obtain⟨p,o,e1,g,⟨t',z,e2,e3,dz⟩ | ⟨e2,_⟩⟩:=zhq dx dy r e
   case inr=>cases e2
   cases e2
   subst e3
   exact .inl ⟨p,z,e1,g,im _ G _ H h (Kp.refl _) dz r⟩
  ·exact h.elim
  ·refine .inr ?_
   unfold ix3 at h
   cases dy with
   | int j =>
    simp only at h
    split at h
    ·rename_i us e
     split at h
     ·rename_i w e2
      obtain⟨p,xs,e1,q,ds⟩:=zft dx r e
      obtain⟨z,e3,d3⟩:=atI_den ds e2
      have fin:=im _ G _ H h (Kp.refl _) d3 r
      rcases q with q | q
      ·exact .inl ⟨p,xs,j,z,e1,rfl,q,e3,fin⟩
      ·exact .inr ⟨p,xs,j,z,e1,rfl,q,e3,fin⟩
     ·exact h.elim
    ·exact h.elim
   | _=>exact False.elim h) h
noncomputable def zbo(x:T)(G:Gp)(Q:Prop):Prop:=match x with
 | .ref p=>(match G p with
  | some (.dK _)=>Q
  | some (.dF _ _)=>Q
  | some (.dT _)=>Q
  | some (.dG _ _)=>Q
  | _=>False)
 | _=>False
noncomputable def ziw(x y z:T)(G:Gp)(Q:VK3):Prop:=match zc7 x y G with
 | some r=>Q (r.getD z) G
 | none=>False
theorem onDct_at{pins:List (Addr×Obj)}{σ:L2.St}{H:Hp}{s:Shared}{G:Gp}{v:V}{x:T}{Q:Prop}(I:Inv X pins σ H s)(d:Den X.kw H v x)(r:HR X.kw H G)(h:zbo x G Q) :
  Q/\∃ p,v=.ref p/\s.TypeIs (.ref p) "dict"/\∀ b,Value.ref p=.ref b->∃ ob,s.heap.get? b=some ob/\ob.dict=none:=by
 have lk:∀ p xs,Rd H p (.ext (ziI X.prog X.w p xs))->s.TypeIs (.ref p) "dict"/\∀ b,Value.ref p=.ref b->∃ ob,s.heap.get? b=some ob/\ob.dict=none:=by
  intro p xs rd
  obtain⟨⟨nd,_,oks,nod,o,es,ep,e1,e2,e3,e4⟩,_,_⟩:=rd.ok I.hok
  refine⟨⟨o,e1,e2.1⟩,λb q=>?_⟩
  cases q
  exact⟨o,e1,e2.2.1⟩
 cases d with
 | ref p =>
  simp only[zbo]at h
  split at h
  ·rename_i kvs eg
   obtain⟨ks,e1,ds⟩:=r p _ eg
   have q:=isD_at I (.inl ⟨ks,.inl e1⟩)
   exact⟨h,p,rfl,q.1,q.2.1⟩
  ·rename_i ob kvs eg
   obtain⟨ks,e1,ds⟩:=r p _ eg
   have q:=isD_at I (.inl ⟨ks,.inr ⟨ob,e1⟩⟩)
   exact⟨h,p,rfl,q.1,q.2.1⟩
  ·rename_i kvs eg
   obtain⟨xs,e1,ds⟩:=r p _ eg
   exact⟨h,p,rfl,lk p xs (.inl e1)⟩
  ·rename_i ob kvs eg
   obtain⟨xs,e1,ds⟩:=r p _ eg
   exact⟨h,p,rfl,lk p xs (.inr ⟨ob,e1⟩)⟩
  ·exact h.elim
 | _=>exact False.elim h
noncomputable def ziz(to te:TE3):TE3:=λτ G Q=>to τ G λx G1=>zbo x G1 (te τ G1 λy G2=>ziw x y .non G2 Q)
noncomputable def zez(to te tf:TE3):TE3:=λτ G Q=>to τ G λx G1=>zbo x G1 (te τ G1 λy G2=>tf τ G2 λz G3=>ziw x y z G3 Q)
theorem get3_den{K:KW}{H:Hp}{G:Gp}{v u w:V}{x y z:T}{Q3:VK3}(d1:Den K H v x)(d2:Den K H u y)(d3:Den K H w z)(hr:HR K H G)(h:ziw x y z G Q3) :
  ∃ p o t,v=.ref p/\DAsk K H p u o/\Den K H (o.getD w) t/\Q3 t G:=by
 unfold ziw at h
 split at h
 ·rename_i r e
  obtain⟨p,o,e1,g,e2⟩:=zhq d1 d2 hr e
  refine⟨p,o,_,e1,g,?_,h⟩
  rcases e2 with ⟨t,zz,e3,e4,dz⟩ | ⟨e3,e4⟩
  ·rw[e3,e4]; exact dz
  ·rw[e3,e4]; exact d3
 ·exact h.elim
variable {f:Expr}{te tf:TE3}
theorem qget2(hr:Room k X.A)(ho:QE X o to)(he:QE X e te)(hf:QE X f tf)(m:M2 X o "get" apos e f pos:=by exact⟨rfl,rfl,rfl,rfl⟩):QE X (.Call (.Attribute o "get" apos) [e,f] [] pos) (zez to te tf):=by
 intro pins s σ H Q I ⟨τ,G,Q3,st,r,h,im⟩
 refine wpAny_Call_method m.base m.few m.line PySem.F.plainAttrs_dict PySem.F.slot_dict_get PySem.F.type_dict_get
  (thn (ho pins s σ H (λv H1=>∃ x G1,zbo x G1 (te τ G1 λy G2=>tf τ G2 λz G3=>ziw x y z G3 Q3)/\Kp H H1/\Den X.kw H1 v x/\HR X.kw H1 G1) I ⟨τ,G,_,st,r,h,λx G1 v H1 h1 k1 d1 r1=>⟨x,G1,h1,k1,d1,r1⟩⟩) λu s1 ⟨v,H1,I1,rv,x,G1,h1,k1,d1,r1⟩=>?_)
 obtain⟨h1,p,rfl,t1,t2⟩:=onDct_at I1 d1 r1 h1
 cases rv
 refine⟨t1,t2,?_⟩
 rw[m.trees]
 refine Calls.callWith_builtin rfl (Calls.evalArgs_plain (Calls.spliced_cons (thn (he pins s1 σ H1 (λw H2=>∃ y G2,(tf τ G2 λz G3=>ziw x y z G3 Q3)/\Kp H1 H2/\Den X.kw H2 w y/\HR X.kw H2 G2) I1 ⟨τ,G1,_,st.mono k1,r1,h1,λy G2 w H2 h2 k2 d2 r2=>⟨y,G2,h2,k2,d2,r2⟩⟩) λiv s2 ⟨w,H2,I2,rw2,y,G2,h2,k2,d2,r2⟩ =>
  Calls.spliced_cons (thn (hf pins s2 σ H2 (λw H3=>∃ z G3,ziw x y z G3 Q3/\Kp H2 H3/\Den X.kw H3 w z/\HR X.kw H3 G3) I2 ⟨τ,G2,_,st.mono (k1.trans k2),r2,h2,λz G3 w H3 h3 k3 d3 r3=>⟨z,G3,h3,k3,d3,r3⟩⟩) λfv s3 ⟨w3,H3,I3,rw3,z,G3,h3,k3,d3,r3⟩=>Calls.spliced_nil ?_))))
 obtain⟨p',ov,t,e,g,dt,q⟩:=get3_den (d1.mono (k2.trans k3)) (d2.mono k3) d3 r3 h3
 cases e
 exact a_get2 hr I3 g rw2 rw3 λw' s4 I4 rw'=>⟨_,H3,I4,rw',im _ G3 _ H3 q ((k1.trans k2).trans k3) dt r3⟩
end
section
variable {X:Cx}{e a b c o i l:Expr}{es:List Expr}{pos apos p p2:Pos}{ta tb tc tv to ti tl:TE3}{t:TA3}{k:Nat}{tg:Expr}
theorem qgs1{x z:Str}(hm:∃ t,X.mg x=some (.str z t))(hg:Gl X x:=by rfl)(hd:(x==("__debug__":Str))=false:=by decide):QE X (.Name x pos) (wC (.str z)):=let ⟨_,h⟩:=hm; qgstr h hg hd
theorem zgu(hl:QE X l tl):QI X tg l (zeq tl):=by
 intro pins s σ H R I h
 obtain⟨τ,G,Q3,st,r,h,im⟩:=h
 refine thn (hl pins s σ H (λv H1=>∃ x G1,zeq (λ_ _ Q=>Q x G1) τ G1 Q3/\Kp H H1/\Den X.kw H1 v x/\HR X.kw H1 G1) I ⟨τ,G,_,st,r,h,λx G1 v H1 h1 k1 d1 r1=>⟨x,G1,h1,k1,d1,r1⟩⟩) λv s1 ⟨vv,H1,I1,rv,x,G1,h1,k1,d1,r1⟩=>?_
 unfold zeq at h1
 cases d1 with
 | tup q ds =>
  rename_i a xs ts
  cases rv
  obtain⟨its,rr,pl,hz⟩:=I1.tuple q
  refine wpAny_pyIter_tuple (show s1.heap.IsTuple a its.toArray from pl) ?_
  refine⟨s1.heap.objs.size,[s1.heap.objs.size],_,_,H1,rfl,I1.kept (t':=s1.toks) λb o e=>hPs _ e,turn_tuple a _,⟨_,hPz _ rfl,rfl,rfl⟩,λb hb=>?_,im ts _ G1 _ H1 h1 k1 r1 ⟨λj H2 G2 kk _ _ hj=>?_,λj H2 G2 y H3 kk r2 _ hj hy=>?_,λj H2 G2 kk _ _ hj=>?_⟩⟩
  ·obtain rfl:=List.mem_singleton.mp hb
   exact I1.fpOk (nLr _) (I1.hok.fresh (nLr _))
  ·have hj':j < xs.length:=by rw[ds.length]; exact hj
   exact⟨xs,xs[j],kk.sqT q,by simp[hj']⟩
  ·obtain⟨e,hy⟩:=hy
   subst e
   obtain⟨t,et,dt⟩:=(ds.mono kk).getV (hy xs (kk.sqT q))
   exact⟨Kp.refl _,r2,t,et,dt⟩
  ·exact⟨xs,kk.sqT q,by rw[ds.length]; exact hj⟩
 | fro q ds =>
  rename_i a xs ts
  cases rv
  obtain⟨its,rr,pl,hz⟩:=I1.list q.sq
  refine wpAny_pyIter_list pl.isList ?_
  refine⟨s1.heap.objs.size,[s1.heap.objs.size],_,_,H1,rfl,I1.kept (t':=s1.toks) λb o e=>hPs _ e,zhC a _,⟨_,hPz _ rfl,rfl,rfl⟩,λb hb=>?_,im ts _ G1 _ H1 h1 k1 r1 ⟨λj H2 G2 kk _ _ hj=>?_,λj H2 G2 y H3 kk r2 _ hj hy=>?_,λj H2 G2 kk _ _ hj=>?_⟩⟩
  ·obtain rfl:=List.mem_singleton.mp hb
   exact I1.fpOk (nLr _) (I1.hok.fresh (nLr _))
  ·have hj':j < xs.length:=by rw[ds.length]; exact hj
   exact⟨xs,xs[j],(kk.sqF q).sq,by simp[hj']⟩
  ·obtain⟨e,hy⟩:=hy
   subst e
   obtain⟨t,et,dt⟩:=(ds.mono kk).getV (hy xs (kk.sqF q).sq)
   exact⟨Kp.refl _,r2,t,et,dt⟩
  ·exact⟨xs,(kk.sqF q).sq,by rw[ds.length]; exact hj⟩
 | ref a =>
  simp only at h1
  split at h1
  ·rename_i ts e
   cases rv
   obtain⟨xs,e1,ds⟩:=r1 a _ e
   obtain⟨its,rr,pl,hz⟩:=I1.list (SqL.of e1)
   refine wpAny_pyIter_list pl.isList ?_
   refine⟨s1.heap.objs.size,[s1.heap.objs.size],_,_,H1,rfl,I1.kept (t':=s1.toks) λb o e=>hPs _ e,zhC a _,⟨_,hPz _ rfl,rfl,rfl⟩,λb hb=>?_,im ts _ G1 _ H1 h1 k1 r1 ⟨λj H2 G2 kk r2 hS hj=>?_,λj H2 G2 y H3 kk r2 hS hj hy=>?_,λj H2 G2 kk r2 hS hj=>?_⟩⟩
   ·obtain rfl:=List.mem_singleton.mp hb
    exact I1.fpOk (nLr _) (I1.hok.fresh (nLr _))
   ·obtain⟨ys,e2,ds2⟩:=r2 a _ hS
    have hj':j < ys.length:=by rw[ds2.length]; exact hj
    exact⟨ys,ys[j],SqL.of e2,by simp[hj']⟩
   ·obtain⟨ez,hy⟩:=hy
    subst ez
    obtain⟨ys,e2,ds2⟩:=r2 a _ hS
    obtain⟨t,et,dt⟩:=ds2.getV (hy ys (SqL.of e2))
    exact⟨Kp.refl _,r2,t,et,dt⟩
   ·obtain⟨ys,e2,ds2⟩:=r2 a _ hS
    exact⟨ys,SqL.of e2,by rw[ds2.length]; exact hj⟩
  ·exact h1.elim
 | _=>exact False.elim h1
theorem qneg(ha:QE X a ta):QE X (.UnaryOp .USub a pos) (λτ G Q=>ta τ G λx G1=>match x with
  | .int j=>Q (.int (-j)) G1
  | _=>False):=(pe_un un_neg ha).imp λσ H Q hu=>by
 obtain⟨τ,G,Q3,s,r,h,im⟩:=hu
 refine⟨τ,G,_,s,r,h,λx G1 v H1 h1 k1 d1 r1=>?_⟩
 cases d1 with
 | int j=>exact⟨j,rfl,im _ G1 _ H1 h1 k1 (.int _) r1⟩
 | _=>exact False.elim h1
noncomputable def zjg(r r':R3)(ta tb tc:TE3):TE3:=λτ G Q=>ta τ G λx G1=>tb τ G1 λy G2=>r x y G2 λz G3=>match z with
 | .bl kk=>if kk=true then tc τ G3 λw G4=>r' y w G4 Q else Q (.bl false) G3
 | _=>False
theorem lChain{K:KW}{r3 r3':R3}{r r':R2}(l1:LR K r3 r)(l2:LR K r3' r'){σ:L2.St}{H:Hp}{Q:VK}(h:lE K (zjg r3 r3' ta tb tc) σ H Q):tChain r r' (lE K ta) (lE K tb) (lE K tc) σ H Q:=by
 obtain⟨τ,G,Q3,s,hr,h,im⟩:=h
 refine⟨τ,G,_,s,hr,h,λx G1 v H1 h1 k1 d1 r1=>⟨τ,G1,_,s.mono k1,r1,h1,λy G2 u H2 h2 k2 d2 r2=>?_⟩⟩
 refine l1 H2 G2 v u x y _ _ (d1.mono k2) d2 r2 h2 λz G3 zv H3 h3 k3 d3 r3=>?_
 cases d3 with
 | bl kk =>
  refine⟨kk,rfl,?_⟩
  dsimp only at h3
  cases kk with
  | false =>
   rw[if_neg Bool.false_ne_true]at h3 ⊢
   exact im _ G3 _ H3 h3 ((k1.trans k2).trans k3) (.bl _) r3
  | true =>
   rw[if_pos rfl]at h3 ⊢
   exact⟨τ,G3,_,s.mono ((k1.trans k2).trans k3),r3,h3,λw G4 wv H4 h4 k4 d4 r4=>l2 H4 G4 u wv y w Q Q3 (d2.mono (k3.trans k4)) d4 r4 h4 (im.mono (((k1.trans k2).trans k3).trans k4))⟩
 | _=>exact False.elim h3
structure CmpI(X:Cx)(op:CmpOp)(f:Int->Int->Bool):Prop where
 o:OpR X (compareOp op) (rI0 λi j=>.bl (f i j))
theorem c_lt:CmpI X .Lt λi j=>decide (i < j):=⟨op_lt⟩
theorem qchain{op op':CmpOp}{f f':Int->Int->Bool}(h1:CmpI X op f)(h2:CmpI X op' f')(ha:QE X a ta)(hb:QE X b tb)(hc:QE X c tc)(hm:lastMarks [op,op'] [b,c]=false:=by with_unfolding_all rfl) :
  QE X (.Compare a [op,op'] [b,c] pos) (zjg (iI0 λi j=>.bl (f i j)) (iI0 λi j=>.bl (f' i j)) ta tb tc):=(pe_chain h1.o h2.o ha hb hc hm).imp λσ H Q h=>lChain (lI0 λ_ _ _=>.bl _) (lI0 λ_ _ _=>.bl _) h
noncomputable abbrev TGs3:=List T->St3->Gp->(St3->Gp->Prop)->Prop
noncomputable def lGs(K:KW)(g:TGs3):TGs:=λvs σ H Q=>∃ ts τ G Q3,Dens K H vs ts/\Sts K H σ τ/\HR K H G/\g ts τ G Q3/\ImpS K H Q3 Q
noncomputable def hNil:TGs3:=λts τ G Q=>match ts with
 | []=>Q τ G
 | _=>False
noncomputable def zfe(g:TG3)(u:TGs3):TGs3:=λts τ G Q=>match ts with
 | t::r=>g t τ G λτ' G'=>u r τ' G' Q
 | []=>False
theorem _root_.L2.PGs.imp{ts:List Expr}{g g':TGs}(h:PGs X ts g)(i:∀ v σ H Q,g' v σ H Q->g v σ H Q):PGs X ts g':=λpins s σ H v u Q I r q=>h pins s σ H v u Q I r (i _ _ _ _ q)
noncomputable abbrev QGs(X:Cx)(ts:List Expr)(g:TGs3):Prop:=PGs X ts (lGs X.kw g)
theorem qgs0:QGs X [] hNil:=pgs_nil.imp λv σ H Q hu=>by
 obtain⟨ts,τ,G,Q3,d,s,r,h,im⟩:=hu
 cases d with
 | nil=>exact⟨rfl,im τ G σ H h (Kp.refl _) s r⟩
 | cons _ _=>exact False.elim h
theorem qgs{g:TG3}{u:TGs3}(h1:QG X e g)(h2:QGs X es u)(hs:(assignEach (e::es) X.env).map (·.2)=assign e X.env::(assignEach es X.env).map (·.2):=by rfl):QGs X (e::es) (zfe g u):=(pgs_cons h1 h2 hs).imp λv σ H Q hu=>by
 obtain⟨ts,τ,G,Q3,d,s,r,h,im⟩:=hu
 cases d with
 | nil=>exact False.elim h
 | cons d1 d2 =>
  refine⟨_,_,rfl,_,τ,G,_,d1,s,r,h,λτ' G' σ' H' h' k' s' r'=>?_⟩
  exact⟨_,τ',G',Q3,d2.mono k',s',r',h',im.mono k'⟩
noncomputable def hTup(n:Nat)(u:TGs3):TG3:=λx τ G Q=>match x with
 | .tup ts=>ts.length=n/\u ts τ G Q
 | _=>False
theorem qgtup{u:TGs3}{kk n:Nat}(h:QGs X es u)(hn:(assignEach es X.env).length=n:=by rfl)(hst:(assignEach es X.env).findIdx? (·.1)=none:=by rfl)(hc:X.calm=true:=by rfl):QG X (.Tuple es kk pos) (hTup n u):=(pg_tup hc h hn hst).imp λv σ H Q hu=>by
 obtain⟨x,τ,G,Q3,d,s,r,h,im⟩:=hu
 cases d with
 | tup q ds=>exact⟨_,_,rfl,q,by rw[ds.length]; exact h.1,_,τ,G,Q3,ds,s,r,h.2,im⟩
 | _=>exact False.elim h
noncomputable abbrev TO3:=St3->Gp->(Option Int->Gp->Prop)->Prop
noncomputable def lO(K:KW)(t:TO3):TO:=λσ H Q=>∃ τ G Q3,Sts K H σ τ/\HR K H G/\t τ G Q3/\∀ o G' H',Q3 o G'->Kp H H'->HR K H' G'->Q o H'
noncomputable def wP0:TO3:=λ_ G Q=>Q none G
noncomputable def wP1(ta:TE3):TO3:=λτ G Q=>ta τ G λx G1=>match x with
 | .int i=>Q (some i) G1
 | _=>False
noncomputable abbrev QO(X:Cx)(e:Option Expr)(t:TO3):Prop:=PO X e (lO X.kw t)
theorem _root_.L2.PO.imp{e:Option Expr}{t t':TO}(h:PO X e t)(i:∀ σ H Q,t' σ H Q->t σ H Q):PO X e t':=λpins s σ H Q I q=>h pins s σ H Q I (i _ _ _ q)
theorem qp1(ha:QE X a ta):QO X (some a) (wP1 ta):=(po_some ha).imp λσ H Q hu=>by
 obtain⟨τ,G,Q3,s,r,h,im⟩:=hu
 refine⟨τ,G,_,s,r,h,λx G1 v H1 h1 k1 d1 r1=>?_⟩
 cases d1 with
 | int i=>exact⟨i,rfl,im _ G1 H1 h1 k1 r1⟩
 | _=>exact False.elim h1
noncomputable def cutT(ts:List T)(lo hi:Option Int):List T:=(ts.drop (HT.sIx ts.length 0 lo)).take (HT.sIx ts.length ts.length hi - HT.sIx ts.length 0 lo)
noncomputable def zb4(x:T)(lo hi:Option Int)(G:Gp)(Q:VK3):Prop:=match x with
 | .tup ts=>Q (.tup (cutT ts lo hi)) G
 | .fro ts=>∀ p,G p=none->Q (.ref p) (updG G p (.lst (cutT ts lo hi)))
 | .ref p=>(match G p with
  | some (.lst ts)=>∀ p,G p=none->Q (.ref p) (updG G p (.lst (cutT ts lo hi)))
  | _=>False)
 | _=>False
noncomputable def zcX(ta:TE3)(tl th:TO3):TE3:=λτ G Q=>ta τ G λx G1=>tl τ G1 λlo G2=>th τ G2 λhi G3=>zb4 x lo hi G3 Q
end
end L3
namespace HT
open PySem PySem.Spec PyProof.Rows L2
section
variable {prog:Program}{w:World}{A:Around}{E:Value->Shared->Prop}{s:Shared}
theorem getItem_tuple_all{t sl:Addr}{items:Array Value}{vl vu:Value}{lo hi:Option Int}{Q:Value->Shared->Prop}(ht:IsTup s.heap t items)(hs:s.heap.IsSliceOf sl vl vu .none)(pl:IsPart vl lo)(pu:IsPart vu hi)
  (hw:sIx items.size 0 lo=0/\sIx items.size items.size hi=items.size) (h:Q (.ref t) s):wpAny (model prog w) A (getItem (.ref t) (.ref sl)) Q E s:=by
 obtain⟨os,hos,hcs,hds⟩:=id hs
 have hTs:s.TypeIs (.ref sl) "slice":=⟨os,hos,hcs⟩
 unfold getItem
 try with_reducible refine wpAny_holding ?_
 first | refine wB (wQ ?_) | skip
 refine wB (wpAny_sequenceKey ht.typeIs (by decide) ?_)
 refine wpAny_bind (wpAny_callSpecial?_slot (name:=Str.ofString "__getitem__") ht.typeIs PyProof.Rows.slot_tuple_getitem
  (wpAny_call_entry PyProof.Rows.slot_tuple_getitem ht.typeIs entry_tuple_getitem ?_ (args_tuple_getitem _ _)))
 show wpAny _ _ (Builtin.Tuple.tupleItemsOf (.ref t) >>= _) _ _ s
 refine wB (tupleItemsOf_ ht ?_)
 refine wB (wpAny_typeOf hTs ?_)
 rw[if_pos (by decide)]
 refine wB (zdr hs pl pu ?_)
 have hy:((((sIx items.size 0 lo:Nat):Int)==0&&(1:Int)==1&&(sIx items.size items.size hi - sIx items.size 0 lo)==items.size)=true):=by
  rw[hw.1,hw.2]; simp
 show wpAny _ _ (if (((sIx items.size 0 lo:Nat):Int)==0&&(1:Int)==1&&(sIx items.size items.size hi - sIx items.size 0 lo)==items.size)=true then _ else _) _ _ s
 rw[if_pos hy]
 refine wB (show wpAny _ _ (Builtin.Tuple.tupleIsExact (.ref t)) _ _ _ from ?_)
 unfold Builtin.Tuple.tupleIsExact
 refine wB (wpAny_typeOf ht.typeIs (wQ ?_))
 rw[if_pos (by decide)]
 exact wB (wpAny_rule (wQ ⟨_,rfl,wQ h⟩))
end
end HT
namespace L3
open PySem PySem.Spec PyProof.Rows L2
section
variable {X:Cx}{e a b c o i l:Expr}{es:List Expr}{pos apos p p2:Pos}{ta tb tc tv to ti tl:TE3}{t:TA3}{k:Nat}{tg:Expr}
theorem Dens.cut{K:KW}{H:Hp}{xs:List V}{ts:List T}(d:Dens K H xs ts)(lo hi:Option Int):Dens K H (cutV xs lo hi) (cutT ts lo hi):=by
 unfold cutV cutT
 rw[d.length]
 exact(d.drop _).take _
theorem cutT_whole{ts:List T}{lo hi:Option Int}(h:HT.sIx ts.length 0 lo=0/\HT.sIx ts.length ts.length hi=ts.length):cutT ts lo hi=ts:=by
 unfold cutT
 rw[h.1,h.2]
 simp
noncomputable def rSl3(K:KW):V->Option Int->Option Int->Hp->VK->Prop:=λx lo hi H Q=>∃ G tx Q3,Den K H x tx/\HR K H G/\zb4 tx lo hi G Q3/\Imp K H Q3 Q
theorem sl_any:SlR X (rSl3 X.kw):=by
 intro pins s σ H x v vl vu lo hi sl Q I rx hs pl pu h
 obtain⟨G,tx,Q3,d,r,h,im⟩:=h
 cases d with
 | tup q ds =>
  rename_i a xs ts
  simp only[zb4]at h
  by_cases hw:HT.sIx ts.length 0 lo=0/\HT.sIx ts.length ts.length hi=ts.length
  ·cases rx
   obtain⟨its,rr,ht,hz⟩:=I.tuple q
   have hlen:its.toArray.size=ts.length:=by rw[List.size_toArray,<- ds.length]; exact rr.length.symm
   refine⟨"tuple",_,PyProof.Rows.slot_tuple_getitem.lookup,ht.typeIs,?_⟩
   rw[cutT_whole hw]at h
   exact HT.getItem_tuple_all ht hs pl pu (by rw[hlen]; exact hw) ⟨.ref a,H,I,rfl,im _ G _ H h (Kp.refl _) (.tup q ds) r⟩
  ·exact sl_tup pins s σ H _ v vl vu lo hi sl Q I rx hs pl pu ⟨a,xs,rfl,q,by rw[ds.length]; exact hw,λp hp=>im _ G _ _ h (Kp.new hp) (.tup (SqT.of zal) ((ds.cut lo hi).mono (Kp.new hp))) (r.lay hp)⟩
 | fro q ds =>
  rename_i a xs ts
  exact sl_list pins s σ H _ v vl vu lo hi sl Q I rx hs pl pu ⟨a,xs,rfl,q.sq,λp hp=>im _ _ _ _ (h p (r.free hp)) (Kp.new hp) (.ref p) (r.new (o:=.lst (cutT ts lo hi)) hp ⟨_,zal,(ds.cut lo hi).mono (Kp.new hp)⟩)⟩
 | ref a =>
  simp only[zb4]at h
  split at h
  ·rename_i ts eg
   obtain⟨xs,e1,ds⟩:=r a _ eg
   exact sl_list pins s σ H _ v vl vu lo hi sl Q I rx hs pl pu ⟨a,xs,rfl,SqL.of e1,λp hp=>im _ _ _ _ (h p (r.free hp)) (Kp.new hp) (.ref p) (r.new (o:=.lst (cutT ts lo hi)) hp ⟨_,zal,(ds.cut lo hi).mono (Kp.new hp)⟩)⟩
  ·exact h.elim
 | _=>exact False.elim h
theorem qslice{lo hi:Option Expr}{wl wh:TO3}(ha:QE X a ta)(hl:QO X lo wl)(hh:QO X hi wh):QE X (.Subscript a (.Slice lo hi none p2) pos) (zcX ta wl wh):=(pe_slice sl_any ha hl hh).imp λσ H Q hu=>by
 obtain⟨τ,G,Q3,s,r,h,im⟩:=hu
 refine⟨τ,G,_,s,r,h,λx G1 v H1 h1 k1 d1 r1=>⟨τ,G1,_,s.mono k1,r1,h1,λlo G2 H2 h2 k2 r2=>⟨τ,G2,_,s.mono (k1.trans k2),r2,h2,λhi G3 H3 h3 k3 r3=>?_⟩⟩⟩
 exact⟨G3,x,Q3,d1.mono (k2.trans k3),r3,h3,im.mono ((k1.trans k2).trans k3)⟩
end
section
variable {X:Cx}{e a b c o i l:Expr}{es:List Expr}{pos apos p p2:Pos}{ta tb tc tv to ti tl:TE3}{t:TA3}{k:Nat}{tg:Expr}
noncomputable def isInt:T->Option Bool
 | .int _=>some true
 | .bl _=>some true
 | .non=>some false
 | .str _=>some false
 | .tup _=>some false
 | _=>none
noncomputable def zfN:T->Option Bool
 | .bl _=>some true
 | .int _=>some false
 | .non=>some false
 | .str _=>some false
 | .tup _=>some false
 | _=>none
noncomputable def zd6:T->Option Bool
 | .tup _=>some true
 | .bl _=>some false
 | .int _=>some false
 | .non=>some false
 | .str _=>some false
 | _=>none
noncomputable def wIsi(n:String)(f:T->Option Bool)(ta:TE3):TE3:=λτ G Q=>ta τ G λx G1=>match f x with
 | some b=>Q (.bl b) G1
 | none=>False
end
end L3
namespace L2
open PySem PySem.Spec PyProof.Rows
section
variable {X:Cx}{pins:List (Addr×Obj)}{σ:St}{H:Hp}{s:Shared}{p:Addr}{u:HO}{o:Obj}
theorem Inv.freeze(I:Inv X pins σ H s)(e:H p=some u)(mu:Mut (some u))(ho:s.heap.get? p=some o):Inv X pins σ (upd H p (.frz o u)) s:=by
 have nown:∀ b y,H b=some (.own y)->b≠p:=λb y r z=>by subst z; rw[e]at r; cases r; exact mu
 have ntup:∀ b xs,H b=some (.tup xs)->b≠p:=λb y r z=>by subst z; rw[e]at r; cases r; exact mu
 have ok:zbz X.prog X.w (upd H p (.frz o u)) s.heap p u:=(I.hok p u e).stay (λ_ _ _ q=>q) (λb q=>by rw[zak (nown b p q)]; exact q) λb xs q=>by rw[zak (ntup b xs q)]; exact q
 exact I.write (x:=p) (e:=p) (o:=.frz o u) (t':=s.toks) (h':=s.heap) (by rw[e]; exact mu) (.inl rfl) (λ_ _ _ q=>q) ⟨o,ho⟩ ⟨ho,ok⟩
theorem Inv.nofrz(I:Inv X pins σ H s)(e:H p=some u)(mu:Mut (some u)):∀ ob w,X.H₀ p≠some (.frz ob w):=λob w z=>by
 have:=I.base.frzs p ob w z
 rw[e]at this; cases this; exact mu
theorem Inv.thaw(I:Inv X pins σ H s)(e:H p=some (.frz o u))(nf:∀ ob w,X.H₀ p≠some (.frz ob w)):Inv X pins σ (upd H p u) s:=by
 have nn:∀ b,H b=none->b≠p:=λb n z=>by subst z; rw[e]at n; cases n
 have no:∀ b w,H b=some w->(∀ ob x,w≠.frz ob x)->b≠p:=λb w q h z=>by subst z; rw[e]at q; cases q; exact h _ _ rfl
 refine⟨I.ok,I.os,I.bare,⟨I.base.keep,I.base.slot,λb ob q n hx=>?_,I.base.there,λb xs q=>?_,λb ob w q=>?_,λb ps q=>?_⟩,I.loc,I.cell,?_,λx c q=>?_,λz hz=>?_,λb w q=>?_,I.len⟩
 ·have:=I.base.free b ob q n hx
  rw[zak (nn b this)]; exact this
 ·have:=I.base.tups b xs q
  rw[zak (no b _ this λ_ _ z=>by cases z)]; exact this
 ·have:=I.base.frzs b ob w q
  rw[zak]; exact this
  rintro rfl; exact nf _ _ q
 ·obtain⟨more,this⟩:=I.base.tbls b ps q
  exact⟨more,by rw[zak (no b _ this λ_ _ z=>by cases z)]; exact this⟩
 ·rw[zak (nn _ I.free)]; exact I.free
 ·rw[zak (nn _ (I.freeC x c q))]; exact I.freeC x c q
 ·obtain⟨a1,a2,a3⟩:=I.pin z hz
  exact⟨a1,by rw[zak (nn _ a2)]; exact a2,a3⟩
 ·have st:∀ b' w',zbz X.prog X.w H s.heap b' w'->zbz X.prog X.w (upd H p u) s.heap b' w':=λb' w' x=>x.stay (λ_ _ _ q=>q)
   (λc q=>by rw[zak (no c _ q λ_ _ z=>by cases z)]; exact q) λc xs q=>by rw[zak (no c _ q λ_ _ z=>by cases z)]; exact q
  by_cases hb:b=p
  ·subst hb
   rw[zal]at q; cases q
   exact st _ _ (I.hok b _ e).2
  ·rw[zak hb]at q
   exact st _ _ (I.hok b _ q)
noncomputable def Itd(p:Addr)(o:Obj)(vs:List V):It:=⟨λi H=>i < vs.length/\∃ u,H p=some (.frz o u),λi H x H'=>H'=H/\vs[i]?=some x,λi H=>vs.length<=i/\∃ u,H p=some (.frz o u)⟩
theorem zhD{P:Program}{w:World}{K:PySem.W.Frag}{tg:Expr}{es:Array DictEntry}{ep:Nat}{vs:List V}(p it:Addr)(o:Obj)(hx:o.ExactDict)(hd:o.data=.dict es ep)(rv:zaM vs (es.toList.map (·.key))) :
  Turn P w K tg (Itd p o vs) [it] it (λi h=>h.IsKeyIter it p i es.size ep):=by
 have hlen:vs.length=es.size:=by have:=rv.length; simpa using this
 refine⟨by simp,λi h st b hb=>?_,λi h h' st k=>st.at λo e=>k it (by simp) o e,?_,?_,λ_ _ _ _ _ st q=>wpAny_pyIter_keyiter st q⟩
 ·have e:b=it:=by simpa using hb
  subst e
  obtain⟨o,e,c,d⟩:=st
  exact⟨o,e,λv z=>by rw[d]at z; cases z⟩
 ·intro X hP hw hK hc i pins s σ H E I hf st hg
  subst hP hw hK
  obtain⟨f0,f1,f2,f3,f4,f5⟩:=hf it (by simp)
  obtain⟨lt,u,eH⟩:=hg
  refine zfj st ⟨o,(I.hok p _ eH).1,hx,hd⟩ (λh' v ev st' sb=>?_) (λge=>absurd lt (by lia)) (I.ok.hd hc)
  have I1:Inv X pins σ H { s with heap:=h' }:=I.turned (t':=s.toks) (λb o hb e=>(sb.2 b hb).trans e) f0 f1 f3 f4 f5
  obtain⟨oi,e,c,d⟩:=id st'
  obtain⟨x,hx1,hx2⟩:∃ x,vs[i]?=some x/\zaK x v:=by
   obtain⟨u',hu,ru⟩:=rv.get (x:=vs[i]) (i:=i) (by simp[lt])
   refine⟨vs[i],by simp[lt],?_⟩
   rw[List.getElem?_map,Array.getElem?_toList]at hu
   rw[hu]at ev; cases ev; exact ru
  exact⟨v,rfl,go_of (s:={ s with heap:=h' }) e c d (by decide) ⟨x,H,I1,hx2,⟨rfl,hx1⟩,st',λb hb=>(hf b hb).1⟩⟩
 ·intro X hP hw hK hc i pins s σ H E I hf st hg
  subst hP hw hK
  obtain⟨f0,f1,f2,f3,f4,f5⟩:=hf it (by simp)
  obtain⟨ge,u,eH⟩:=hg
  refine zfj st ⟨o,(I.hok p _ eH).1,hx,hd⟩ (λh' v ev st' sb=>?_) (λ_ h' eb=>⟨rfl,I.turned (t':=s.toks) (λb o hb e=>eb b o hb e) f0 f1 f3 f4 f5⟩) (I.ok.hd hc)
  rw[Array.getElem?_eq_none (by lia)]at ev; cases ev
end
end L2
namespace L3
open PySem PySem.Spec PyProof.Rows L2
section
variable {X:Cx}{e a b c o i l:Expr}{es:List Expr}{pos apos p p2:Pos}{ta tb tc tv to ti tl:TE3}{t:TA3}{k:Nat}{tg:Expr}{st:Stmt}
noncomputable def thawD(q:Addr)(kvs:List (Key×T))(D:Ends3):Ends3 :=
 ⟨λτ G=>∃ ob,G q=some (.dF ob kvs)/\D.nx τ (updG G q (.dK kvs)),λv G=>∃ ob,G q=some (.dF ob kvs)/\D.rt v (updG G q (.dK kvs)),λτ G=>∃ ob,G q=some (.dF ob kvs)/\D.bk τ (updG G q (.dK kvs)),λτ G=>∃ ob,G q=some (.dF ob kvs)/\D.ct τ (updG G q (.dK kvs))⟩
noncomputable def thawT(q:Addr)(kvs:List (LK×T))(D:Ends3):Ends3 :=
 ⟨λτ G=>∃ ob,G q=some (.dG ob kvs)/\D.nx τ (updG G q (.dT kvs)),λv G=>∃ ob,G q=some (.dG ob kvs)/\D.rt v (updG G q (.dT kvs)),λτ G=>∃ ob,G q=some (.dG ob kvs)/\D.bk τ (updG G q (.dT kvs)),λτ G=>∃ ob,G q=some (.dG ob kvs)/\D.ct τ (updG G q (.dT kvs))⟩
noncomputable def wThaw(t:TS3):TS3:=λD τ G=>(∃ q kvs,G q=some (.dK kvs)/\t (thawD q kvs D) τ G)∨∃ q kvs,G q=some (.dT kvs)/\t (thawT q kvs D) τ G
noncomputable def thawH(q:Addr)(D:Ends):Ends :=
 ⟨λσ H=>∃ ob u,H q=some (.frz ob u)/\D.nx σ (upd H q u),λv H=>∃ ob u,H q=some (.frz ob u)/\D.rt v (upd H q u),λσ H=>∃ ob u,H q=some (.frz ob u)/\D.bk σ (upd H q u),λσ H=>∃ ob u,H q=some (.frz ob u)/\D.ct σ (upd H q u)⟩
theorem thaw_SP{q:Addr}{D:Ends}{pins:List (Addr×Obj)}{f:Flow}{s':Shared}(nf:∀ ob w,X.H₀ q≠some (.frz ob w))(h:SP X pins (thawH q D) f s'):SP X pins D f s':=by
 cases f with
 | next=>obtain⟨σ',H',I,ob,u,e,d⟩:=h; exact⟨σ',_,I.thaw e nf,d⟩
 | brk=>obtain⟨σ',H',I,ob,u,e,d⟩:=h; exact⟨σ',_,I.thaw e nf,d⟩
 | cont=>obtain⟨σ',H',I,ob,u,e,d⟩:=h; exact⟨σ',_,I.thaw e nf,d⟩
 | ret v=>obtain⟨x,σ',H',I,r,ob,u,e,d⟩:=h; exact⟨x,σ',_,I.thaw e nf,r,d⟩
theorem HR.thaw{K:KW}{H:Hp}{G:Gp}(r:HR K H G){q:Addr}{ob:Obj}{u:HO}{g:GO}(e:H q=some (.frz ob u))(m:keepF u=false)(n:zey K (upd H q u) q g):HR K (upd H q u) (updG G q g):=λb p e'=>by
 by_cases z:b=q
 ·subst z; rw[zaa]at e'; cases e'; exact n
 ·rw[zab z]at e'
  exact(r b p e').at (Kp.thaw e m) (zak z)
theorem zfi{K:KW}{H H':Hp}{G':Gp}{q:Addr}{ob:Obj}{kvs:List (Key×T)}(k:Kp H H')(r:HR K H' G')(e:G' q=some (.dF ob kvs)):∃ ob ks,H' q=some (.frz ob (.dK ks))/\Kp H' (upd H' q (.dK ks))/\HR K (upd H' q (.dK ks)) (updG G' q (.dK kvs)):=by
 obtain⟨ks,e1,ds⟩:=r q _ e
 have kt:Kp H' (upd H' q (.dK ks)):=Kp.thaw e1 rfl
 exact⟨ob,ks,e1,kt,r.thaw e1 rfl ⟨ks,zal,zdW.mono kt ds⟩⟩
theorem zfh{K:KW}{H H':Hp}{G':Gp}{q:Addr}{ob:Obj}{kvs:List (LK×T)}(k:Kp H H')(r:HR K H' G')(e:G' q=some (.dG ob kvs)):∃ ob u,H' q=some (.frz ob u)/\Kp H' (upd H' q u)/\HR K (upd H' q u) (updG G' q (.dT kvs)):=by
 obtain⟨xs,e1,ds⟩:=r q _ e
 have kt:Kp H' (upd H' q (.ext (ziI K.P K.w q xs))):=Kp.thaw e1 rfl
 exact⟨ob,_,e1,kt,r.thaw e1 rfl ⟨xs,zal,zdA.mono kt ds⟩⟩
theorem qthaw{t:TS3}(h:QS X st t):QS X st (wThaw t):=by
 intro pins s σ H D I ⟨τ,G,D3,ss,r,h3,im⟩
 rcases h3 with ⟨q,kvs,eg,h3⟩ | ⟨q,kvs,eg,h3⟩
 ·obtain⟨ks,e1,ds⟩:=r q _ eg
  have nf:=I.nofrz e1 trivial
  refine thn (h pins s σ H (thawH q D) I ⟨τ,G,_,ss,r,h3,⟨?_,?_,?_,?_⟩⟩) λf s' z=>thaw_SP nf z
  ·intro τ' G' σ' H' ⟨ob0,e,d⟩ k' s' r'
   obtain⟨ob,ks',e2,kt,rt⟩:=zfi k' r' e
   exact⟨ob,_,e2,im.nx τ' _ σ' _ d (k'.trans kt) (s'.mono kt) rt⟩
  ·intro t' G' v H' ⟨ob0,e,d⟩ k' s' r'
   obtain⟨ob,ks',e2,kt,rt⟩:=zfi k' r' e
   exact⟨ob,_,e2,im.rt t' _ v _ d (k'.trans kt) (s'.mono kt) rt⟩
  ·intro τ' G' σ' H' ⟨ob0,e,d⟩ k' s' r'
   obtain⟨ob,ks',e2,kt,rt⟩:=zfi k' r' e
   exact⟨ob,_,e2,im.bk τ' _ σ' _ d (k'.trans kt) (s'.mono kt) rt⟩
  ·intro τ' G' σ' H' ⟨ob0,e,d⟩ k' s' r'
   obtain⟨ob,ks',e2,kt,rt⟩:=zfi k' r' e
   exact⟨ob,_,e2,im.ct τ' _ σ' _ d (k'.trans kt) (s'.mono kt) rt⟩
 ·obtain⟨ks,e1,ds⟩:=r q _ eg
  have nf:=I.nofrz e1 trivial
  refine thn (h pins s σ H (thawH q D) I ⟨τ,G,_,ss,r,h3,⟨?_,?_,?_,?_⟩⟩) λf s' z=>thaw_SP nf z
  ·intro τ' G' σ' H' ⟨ob0,e,d⟩ k' s' r'
   obtain⟨ob,ks',e2,kt,rt⟩:=zfh k' r' e
   exact⟨ob,_,e2,im.nx τ' _ σ' _ d (k'.trans kt) (s'.mono kt) rt⟩
  ·intro t' G' v H' ⟨ob0,e,d⟩ k' s' r'
   obtain⟨ob,ks',e2,kt,rt⟩:=zfh k' r' e
   exact⟨ob,_,e2,im.rt t' _ v _ d (k'.trans kt) (s'.mono kt) rt⟩
  ·intro τ' G' σ' H' ⟨ob0,e,d⟩ k' s' r'
   obtain⟨ob,ks',e2,kt,rt⟩:=zfh k' r' e
   exact⟨ob,_,e2,im.bk τ' _ σ' _ d (k'.trans kt) (s'.mono kt) rt⟩
  ·intro τ' G' σ' H' ⟨ob0,e,d⟩ k' s' r'
   obtain⟨ob,ks',e2,kt,rt⟩:=zfh k' r' e
   exact⟨ob,_,e2,im.ct τ' _ σ' _ d (k'.trans kt) (s'.mono kt) rt⟩
theorem itd_ok{K:KW}{H1:Hp}{q:Addr}{ob:Obj}{vs:List V}{ts:List T}{S:Gp->Prop}(ds:Dens K H1 vs ts)(hS:∀ H' G',HR K H' G'->S G'->∃ u,H' q=some (.frz ob u)):ItOk K H1 (Itd q ob vs) ts S where
 go:=λj H' G' kk r hs hj=>⟨by rw[ds.length]; exact hj,hS H' G' r hs⟩
 yld:=λj H' G' y H2 kk r hs hj hy=>by
  obtain⟨e,hy⟩:=hy
  subst e
  obtain⟨t,et,dt⟩:=(ds.mono kk).getV hy
  exact⟨Kp.refl _,r,t,et,dt⟩
 stop:=λj H' G' kk r hs hj=>⟨by rw[ds.length]; exact hj,hS H' G' r hs⟩
noncomputable def iDct(tl:TE3):TI3:=λτ G R=>tl τ G λx G1=>match x with
 | .ref q=>(match G1 q with
  | some (.dK kvs)=>∀ ob,R (kvs.map λkv=>kT kv.1) (λG=>G q=some (.dF ob kvs)) (updG G1 q (.dF ob kvs))
  | some (.dT kvs)=>∀ ob,R (kvs.map λkv=>lkT kv.1) (λG=>G q=some (.dG ob kvs)) (updG G1 q (.dG ob kvs))
  | _=>False)
 | _=>False
theorem qi_dct(hl:QE X l tl):QI X tg l (iDct tl):=by
 intro pins s σ H R I ⟨τ,G,Q3,st,r,h,im⟩
 refine thn (hl pins s σ H (λv H1=>∃ x G1,iDct (λ_ _ Q=>Q x G1) τ G1 Q3/\Kp H H1/\Den X.kw H1 v x/\HR X.kw H1 G1) I ⟨τ,G,_,st,r,h,λx G1 v H1 h1 k1 d1 r1=>⟨x,G1,h1,k1,d1,r1⟩⟩) λv s1 ⟨vv,H1,I1,rv,x,G1,h1,k1,d1,r1⟩=>?_
 unfold iDct at h1
 cases d1 with
 | ref q =>
  cases rv
  simp only at h1
  split at h1
  ·rename_i kvs eg
   obtain⟨ks,e1,ds⟩:=r1 q _ eg
   obtain⟨z,nd,vs,rel,o,es,ep,g1,g2,g3,g4,g5,g6⟩:=dk_of I1.hok e1
   have I2:Inv X pins σ (upd H1 q (.frz o (.dK ks))) s1:=I1.freeze e1 trivial g1
   have kf:Kp H1 (upd H1 q (.frz o (.dK ks))):=Kp.mut (by rw[e1]; trivial)
   have r2:HR X.kw (upd H1 q (.frz o (.dK ks))) (updG G1 q (.dF o kvs)):=r1.put eg ⟨ks,zal,zdW.mono kf ds⟩
   refine zgZ nd ⟨o,g1,g2,g3⟩ ⟨_,[_],_,Itd q o (ks.map λx=>kV x.1),_,rfl,I2.kept (t':=s1.toks) λb o e=>hPs _ e,zhD q _ o g2 g3 (zea g5 rel),⟨_,hPz _ rfl,rfl,rfl⟩,λb hb=>?_,im _ _ _ _ _ (h1 o) (k1.trans kf) r2 (itd_ok ((zeu ds).mono kf) λH' G' r' hs=>?_)⟩
   ·obtain rfl:=List.mem_singleton.mp hb
    exact I2.fpOk (nLr _) (I2.hok.fresh (nLr _))
   ·obtain⟨ks',e',_⟩:=r' q _ hs
    exact⟨_,e'⟩
  ·rename_i kvs eg
   obtain⟨xs,e1,ds⟩:=r1 q _ eg
   obtain⟨⟨nd,sz,oks,nod,o,es,ep,g1,g2,g3,g4⟩,_,_⟩:=I1.hok q _ e1
   have I2:Inv X pins σ (upd H1 q (.frz o (.ext (ziI X.prog X.w q xs)))) s1:=I1.freeze e1 trivial g1
   have kf:Kp H1 (upd H1 q (.frz o (.ext (ziI X.prog X.w q xs)))):=Kp.mut (by rw[e1]; trivial)
   have r2:HR X.kw (upd H1 q (.frz o (.ext (ziI X.prog X.w q xs)))) (updG G1 q (.dG o kvs)):=r1.put eg ⟨xs,zal,zdA.mono kf ds⟩
   refine zgZ nd ⟨o,g1,g2,g3⟩ ⟨_,[_],_,Itd q o (xs.map λx=>V.ref x.2.1),_,rfl,I2.kept (t':=s1.toks) λb o e=>hPs _ e,zhD q _ o g2 g3 (by rw[g4]; exact zgp xs),⟨_,hPz _ rfl,rfl,rfl⟩,λb hb=>?_,im _ _ _ _ _ (h1 o) (k1.trans kf) r2 (itd_ok ((zeX ds).mono kf) λH' G' r' hs=>?_)⟩
   ·obtain rfl:=List.mem_singleton.mp hb
    exact I2.fpOk (nLr _) (I2.hok.fresh (nLr _))
   ·obtain⟨ks',e',_⟩:=r' q _ hs
    exact⟨_,e'⟩
  ·exact h1.elim
 | _=>exact False.elim h1
end
end L3
namespace L2
open PySem PySem.Spec PyProof.Rows
open AutoSeq1 (wpAny_loadPart')
section
variable {prog:Program}{w:World}{A:Around}{E:Value->Shared->Prop}{s:Shared}
theorem nxT_go{ti tp:Addr}{j:Nat}{vs:Array Value}{v:Value}{Q:Value->Shared->Prop}(a:s.heap.IsTupleIter ti tp j)(b:s.heap.IsTuple tp vs)(c:vs[j]?=some v)
  (q:∀ g,g.IsTupleIter ti tp (j+1)->Heap.SameBut ti s.heap g->Q v { s with heap:=g }):wpAny (model prog w) A (Builtin.SmallTypes.nextOf (.ref ti)) Q E s:=by
 obtain⟨oi,a1,a2,a3⟩:=id a
 obtain⟨ot,b1,_,nt,b3⟩:=b
 unfold Builtin.SmallTypes.nextOf
 refine wpAny_bind (wpAny_callSpecial?_slot (name:=Str.ofString "__next__") a.typeIs F.slot_tuple_iterator_next (wpAny_call_entry F.slot_tuple_iterator_next a.typeIs F.entry_tuple_iterator_next ?go (F.args_tuple_iterator_next_1 _)))
 change wpAny _ _ (field (.ref ti) 0 >>= λ_=>_) _ _ s
 refine wB (wpAny_field a1 a3 (x:=.ref tp) rfl ?_)
 change wpAny _ _ (if (Value.ref tp==Value.none)=true then _ else _) _ _ s
 rw[if_neg (show ¬ ((Value.ref tp==Value.none)=true)from Bool.false_ne_true)]
 change wpAny _ _ (field (.ref ti) 1 >>= λ_=>_) _ _ s
 refine wB (wpAny_field a1 a3 (x:=.int j 0) rfl ?_)
 change wpAny _ _ (seqItems? (.ref tp) >>= λ_=>_) _ _ s
 refine wB (wpAny_seqItems b1 b3 ?_)
 simp only[Int.toNat_natCast,c]
 refine wpAny_bind (wpAny_setField a1 a3 (by simp) (wpAny_pure ⟨v,rfl,wpAny_pure (q _ ?here (Heap.SameBut.update ..))⟩))
 refine⟨_,Heap.get?_update_self _ a1 (Obj.isFreed_of_fields (Obj.data_mapFields a3 _)),(Obj.cls_mapFields ..).trans a2,?_⟩
 rw[Obj.data_mapFields a3]; simp[rawInt]
theorem nxT_end{ti tp:Addr}{j:Nat}{vs:Array Value}{Q:Value->Shared->Prop}(hh:A.handled=none)(a:s.heap.IsTupleIter ti tp j)(b:s.heap.IsTuple tp vs)(c:vs[j]?=none)
  (q:∀ g x,Heap.ExtBut ti s.heap g->(∃ ob,g.get? x=some ob/\ob.cls=.type "StopIteration")->E (.ref x) { s with heap:=g }):wpAny (model prog w) A (Builtin.SmallTypes.nextOf (.ref ti)) Q E s:=by
 obtain⟨oi,a1,a2,a3⟩:=id a
 obtain⟨ot,b1,_,nt,b3⟩:=b
 unfold Builtin.SmallTypes.nextOf
 refine wpAny_bind (wpAny_callSpecial?_slot (name:=Str.ofString "__next__") a.typeIs F.slot_tuple_iterator_next (wpAny_call_entry F.slot_tuple_iterator_next a.typeIs F.entry_tuple_iterator_next ?go (F.args_tuple_iterator_next_1 _)))
 change wpAny _ _ (field (.ref ti) 0 >>= λ_=>_) _ _ s
 refine wB (wpAny_field a1 a3 (x:=.ref tp) rfl ?_)
 change wpAny _ _ (if (Value.ref tp==Value.none)=true then _ else _) _ _ s
 rw[if_neg (show ¬ ((Value.ref tp==Value.none)=true)from Bool.false_ne_true)]
 change wpAny _ _ (field (.ref ti) 1 >>= λ_=>_) _ _ s
 refine wB (wpAny_field a1 a3 (x:=.int j 0) rfl ?_)
 change wpAny _ _ (seqItems? (.ref tp) >>= λ_=>_) _ _ s
 refine wB (wpAny_seqItems b1 b3 ?_)
 simp only[Int.toNat_natCast,c]
 refine wpAny_bind (wpAny_rule (wpAny_bind (wpAny_setField a1 a3 (by simp) ?nx)))
 change wpAny _ _ (newExc (.type "StopIteration") [] >>= λ_=>_) _ _ _
 simp only[newExc,newTuple,raiseNew]
 refine wpAny_bind (wpAny_bind (wpAny_newObj_type (wpAny_bind (m:=firstArgMember _ _) (wpAny_of_eq (a:=Value.none) (by first | rfl | (simp only[firstArgMember]; rfl)) (wpAny_newObj_type ?raise (by size_fits)))) (by size_fits)))
 refine wB (wpAny_handled ?hd)
 rw[show A.in1.handled=none from hh]
 exact wB (wQ (wpAny_throw (q _ _ (((Heap.SameBut.update ..).extBut.push _).push _) ⟨_,hPz _ rfl,rfl⟩)))
theorem drawsT(hh:A.handled=none)(ti tp:Addr)(ne:tp≠ti)(vs:Array Value):Draws prog w A ti [ti,tp] vs.size (λj v=>vs[j]?=some v) (λj g=>g.IsTupleIter ti tp j/\g.IsTuple tp vs) :=
 ⟨λ_ _ st=>let ⟨o,e,_⟩:=st.1; ⟨o,e⟩,
  λ_ _ _ st k=>⟨st.1.at λo e=>k ti (by simp) o e,let ⟨o,e,r⟩:=st.2; ⟨o,k tp (by simp) o e,r⟩⟩,
  λj s Q E lt st q=>nxT_go st.1 st.2 (v:=vs[j]) (by simp[lt]) λg st' sb=>q _ g s.toks (by simp[lt]) ⟨st',st.2.extBut sb.extBut ne⟩ sb,
  λs Q E st q=>nxT_end hh st.1 st.2 (by simp) q⟩
theorem mk_enumT(tp:Addr)(vs:Array Value)(n:Nat)(dct:Option Addr)(sl:Array (Option Value)) :
  Meets (Builtin.«enumerate.__new__» ⟨[.type "enumerate",.ref tp],[]⟩) (λ_ R s=>s.heap.get? tp=some { cls:=.type "tuple",dict:=dct,data:=.seq vs n,slots:=sl } /\
   R (.ok (.ret (.ref (s.heap.push { cls:=.type "tuple_iterator",data:=.fields #[.ref tp,.int 0 0] }).objs.size)))
    { s with heap:=(s.heap.push { cls:=.type "tuple_iterator",data:=.fields #[.ref tp,.int 0 0] }).push { cls:=.type "enumerate",data:=.fields #[.none,.bool false,.ref s.heap.objs.size,rawInt 0,.none,.none] } }) :=
 .of_wp λprog w A R s q=>by
  obtain⟨hp,g,d,tk,os⟩:=s; obtain⟨e,q⟩:=q
  have hsub:=sub_enumerate
  have isT:Heap.IsTuple (Shared.heap ⟨hp,g,d,tk,os⟩) tp vs:=⟨_,e,rfl,n,rfl⟩
  wp_walk using wpAny_loadPart' e
  refine wpAny_stack_any λst=>wQ ?fr
  split
  ·rename_i cc _ _ _ _ _
   cases (cc==Value.type "enumerate")<;>(wp_walk using wpAny_loadPart' e,wpAny_pyIter_tuple isT; exact⟨_,rfl,q⟩)
  ·wp_walk using wpAny_loadPart' e,wpAny_pyIter_tuple isT
   exact⟨_,rfl,q⟩
theorem call_enumT{tp:Addr}{vs:Array Value}{Q:Value->Shared->Prop}(isT:s.heap.IsTuple tp vs)
  (q:∀ g,IsEnum g (s.heap.objs.size+1) s.heap.objs.size 0 .none->g.IsTupleIter s.heap.objs.size tp 0->(∀ b o,s.heap.get? b=some o->g.get? b=some o)->Q (.ref (s.heap.objs.size+1)) { s with heap:=g }) :
  wpAny (model prog w) A (call (.type "enumerate") [.ref tp]) Q E s:=by
 obtain⟨⟨c,dct,dt,sl⟩,e1,e2,n,e3⟩:=isT
 cases (show c=.type "tuple" from e2)
 cases (show dt=.seq vs n from e3)
 refine callType_new F.called_enumerate (by decide) (F.typeCall_enumerate_1 _) (F.newCall_enumerate_1 _) (λobj=>F.args_object_init_2 obj _) F.entry_enumerate_new (mk_enumT tp vs n dct sl) ⟨e1,?_⟩
 have z:(s.heap.push { cls:=.type "tuple_iterator",data:=.fields #[.ref tp,.int 0 0] }).objs.size=s.heap.objs.size+1:=Heap.size_push ..
 change _/\_
 rw[z]
 have at1:IsEnum ((s.heap.push { cls:=.type "tuple_iterator",data:=.fields #[.ref tp,.int 0 0] }).push { cls:=.type "enumerate",data:=.fields #[.none,.bool false,.ref s.heap.objs.size,rawInt 0,.none,.none] })
   (s.heap.objs.size+1) s.heap.objs.size 0 .none:=by
  have:=Heap.get?_push_size (s.heap.push { cls:=.type "tuple_iterator",data:=.fields #[.ref tp,.int 0 0] }) (o:={ cls:=.type "enumerate",data:=.fields #[.none,.bool false,.ref s.heap.objs.size,rawInt 0,.none,.none] }) rfl
  rwa [z]at this
 exact⟨⟨_,at1,rfl⟩,q _ at1 ⟨_,hPs _ (hPz _ rfl),rfl,rfl⟩ λb o x=>hPs _ (hPs _ x)⟩
end
section
variable {X:Cx}{pins:List (Addr×Obj)}{σ:St}{H:Hp}{s:Shared}{h':Heap}{ch:List Addr}{t':Nat}
theorem Inv.turns(I:Inv X pins σ H s)(k:∀ b o,b∉ch->s.heap.get? b=some o->h'.get? b=some o)(hf:∀ b∈ch,FpOk X pins H b):Inv X pins σ H { s with heap:=h',toks:=t' }:=by
 refine I.step (g':=s.gens) (d':=s.drawn) (ch:=ch) (λb hb=>?_) (λb o _ _ hc e _=>k b o hc e) (λb o _ _ hc e _=>⟨o.slots,k b o hc e⟩) (λ_ _ _ _ n=>n)
  (λb o hc e=>⟨o,k b o hc e⟩) (λ_ _ e=>e) (λ_ _ _ e=>e) (λb ps e=>⟨#[],by rw[e]; simp⟩) (λm hm=>?_) (λb u e=>?_) I.bare
 ·obtain⟨f0,f1,f2,f3,f4,f5⟩:=hf b hb
  exact⟨f3,f1,f4,f5⟩
 ·obtain⟨o,es,ep,ho,r⟩:=hm
  exact⟨o,es,ep,k _ o (λz=>(hf _ z).2.1 rfl) ho,r⟩
 ·have nc:∀ c u,H c=some u->c∉ch:=λc u q z=>by rw[(hf c z).1]at q; cases q
  refine (I.hok b u e).stay (λc v hc q=>k c v ?_ q) (λ_ q=>q) λ_ _ q=>q
  rcases hc with z | z
  ·rw[z]; exact nc b u e
  ·exact nc c _ z
theorem Inv.turnsNew{T:Addr}{o:HO}(I:Inv X pins σ H s)(k:∀ b o,b∉ch->s.heap.get? b=some o->h'.get? b=some o)(hf:∀ b∈ch,FpOk X pins H b)(hT:s.heap.objs.size<=T)(new:zbz X.prog X.w (upd H T o) h' T o) :
  Inv X pins σ (upd H T o) { s with heap:=h',toks:=t' }:=by
 have hn:=I.hok.fresh hT
 have lt:∀ b ob,s.heap.get? b=some ob->b≠T:=λb ob q=>nNl (nLl (hLz q) hT)
 refine I.step (g':=s.gens) (d':=s.drawn) (ch:=ch) (λb hb=>?_) (λb o _ _ hc e _=>k b o hc e) (λb o _ _ hc e _=>⟨o.slots,k b o hc e⟩) (λb ob _ q n=>by rw[zak (lt b ob q)]; exact n)
  (λb o hc e=>⟨o,k b o hc e⟩) (λb xs q=>by rw[zak (zap q hn)]; exact q) (λb ob xs q=>by rw[zak (zap q hn)]; exact q) (λb ps q=>⟨#[],by rw[zak (zap q hn),q]; simp⟩) (λm hm=>?_) (λb u e=>?_) I.bare
 ·obtain⟨f0,f1,f2,f3,f4,f5⟩:=hf b hb
  exact⟨f3,f1,f4,f5⟩
 ·obtain⟨o,es,ep,ho,r⟩:=hm
  exact⟨o,es,ep,k _ o (λz=>(hf _ z).2.1 rfl) ho,r⟩
 ·have nc:∀ c u,H c=some u->c∉ch:=λc u q z=>by rw[(hf c z).1]at q; cases q
  by_cases hb:b=T
  ·subst hb; rw[zal]at e; cases e; exact new
  ·rw[zak hb]at e
   refine (I.hok b u e).stay (λc v hc q=>k c v ?_ q) (λc q=>by rw[zak (zap q hn)]; exact q) λc xs q=>by rw[zak (zap q hn)]; exact q
   rcases hc with z | z
   ·rw[z]; exact nc b u e
   ·exact nc c _ z
end
noncomputable def Ite(K:W.Frag)(a:Addr):It :=
 ⟨λi H=>∃ xs x,SqT K H a xs/\xs[i]?=some x,λi H x H'=>∃ y t,(∀ xs,SqT K H a xs->xs[i]?=some y)/\H t=none/\x=.ref t/\H'=upd H t (.tup [.int i,y]),λi H=>∃ xs,SqT K H a xs/\xs.length<=i⟩
theorem turn_enumT{P:Program}{w:World}{K:PySem.W.Frag}{els:List Expr}{kk:Nat}{pos:Pos}(a e ti:Addr)(ne:e≠ti):Turn P w K (.Tuple els kk pos) (Ite K a) [e,ti] e (λi h=>(∃ old,IsEnum h e ti i old)/\h.IsTupleIter ti a i):=by
 refine⟨by simp,λi h st b hb=>?_,λi h h' st k=>?_,?_,?_,λA i s Q E st q=>?_⟩
 ·obtain⟨⟨old,st1⟩,o,e2,c,d⟩:=st
  rcases List.mem_cons.mp hb with z | z
  ·subst z; exact⟨_,st1,λv z=>by have z':Data.fields _=Data.cell v:=z; cases z'⟩
  ·obtain rfl:=List.mem_singleton.mp z
   exact⟨o,e2,λv z=>by rw[d]at z; cases z⟩
 ·obtain⟨⟨old,st1⟩,st2⟩:=st
  exact⟨⟨old,k e (by simp) _ st1⟩,st2.at λo q=>k ti (by simp) o q⟩
 ·intro X hP hw hK hc i pins s σ H E I hf st hg
  subst hP hw hK
  obtain⟨⟨old,st1⟩,st2⟩:=st
  obtain⟨xs,x,hq,hx⟩:=hg
  obtain⟨its,rv,pt,hz⟩:=I.tuple hq
  obtain⟨u,hu,ru⟩:=rv.get hx
  have hlt:i < its.toArray.size:=by
   obtain⟨h1,_⟩:=List.getElem?_eq_some_iff.mp hu
   simpa using h1
  have nea:a≠ti:=by
   rintro rfl
   obtain⟨o,e1,e2,_⟩:=id st2
   obtain⟨o',e1',e2',_⟩:=id pt
   rw[e1]at e1'; cases e1'; rw[e2]at e2'; exact absurd e2' (by decide)
  have neb:a≠e:=by
   rintro rfl
   obtain⟨o',e1',e2',_⟩:=id pt
   have st1':s.heap.get? a=some _:=st1
   rw[st1']at e1'; cases e1'; exact absurd (show Value.type "enumerate"=Value.type "tuple" from e2') (by decide)
  have D:=drawsT (prog:=X.prog) (w:=X.w) (A:=X.A.in1) (show X.A.in1.handled=none from I.ok.hd hc) ti a nea its.toArray
  refine wpAny_pyNext_enum_itemD D st1 ⟨st2,pt⟩ hlt ne (by simp[ne,Ne.symm neb]) λv h' tk hv eo st' et hs hk=>⟨_,rfl,?_⟩
  have hvu:v=u:=by
   have hv':its.toArray[i]?=some v:=hv
   rw[List.getElem?_toArray,hu]at hv'
   exact(Option.some.inj hv').symm
  subst hvu
  obtain⟨f0,f1,f2,f3,f4,f5⟩:=hf e (by simp)
  obtain⟨g0,g1,g2,g3,g4,g5⟩:=hf ti (by simp)
  refine wpAny_letOwnedTupleGo_enum eo λh2 e2 sb=>?_
  have hTe:s.heap.objs.size≠e:=Nat.ne_of_gt (hLz st1)
  have hTi:s.heap.objs.size≠ti:=by obtain⟨o,q,_⟩:=id st2; exact Nat.ne_of_gt (hLz q)
  have kk2:∀ b o,b≠e->b≠ti->s.heap.get? b=some o->h2.get? b=some o:=λb o n1 n2 q=>(sb.2 b n1).trans (hk b o n1 n2 q)
  have et2:h2.get? s.heap.objs.size=some { cls:=.type "tuple",data:=.seq #[.int i tk,v] }:=(sb.2 _ hTe).trans et
  have hn:=I.hok.fresh (nLr _)
  have new:zbz X.prog X.w (upd H s.heap.objs.size (.tup [.int i,x])) h2 s.heap.objs.size (.tup [.int i,x]) :=
   ⟨by show 2<=sizeLine; rw[sizeLine_eq]; decide,[.int i tk,v],.cons ⟨tk,rfl⟩ (.cons ru .nil),⟨_,et2,rfl,_,rfl⟩⟩
  have I2:=I.turnsNew (t':=tk+1) (ch:=[e,ti]) (h':=h2) (λb o nb q=>kk2 b o (λz=>nb (by simp[z])) (λz=>nb (by simp[z])) q) hf (Nat.le_refl _) new
  refine⟨.ref s.heap.objs.size,_,I2,rfl,⟨x,_,λys hy=>by rw[I.tuple_inj hy hq]; exact hx,hn,rfl,rfl⟩,⟨⟨_,by simpa using e2⟩,?_⟩,λb hb=>?_⟩
  ·obtain⟨o,q,r⟩:=st'.1
   exact⟨o,(sb.2 ti (Ne.symm ne)).trans q,r⟩
  ·rcases List.mem_cons.mp hb with z | z
   ·subst z; rw[zak (Ne.symm hTe)]; exact f0
   ·obtain rfl:=List.mem_singleton.mp z
    rw[zak (Ne.symm hTi)]; exact g0
 ·intro X hP hw hK hc i pins s σ H E I hf st hg
  subst hP hw hK
  obtain⟨⟨old,st1⟩,st2⟩:=st
  obtain⟨xs,hq,hx⟩:=hg
  obtain⟨its,rv,pt,hz⟩:=I.tuple hq
  have hl:=rv.length
  have nea:a≠ti:=by
   rintro rfl
   obtain⟨o,e1,e2,_⟩:=id st2
   obtain⟨o',e1',e2',_⟩:=id pt
   rw[e1]at e1'; cases e1'; rw[e2]at e2'; exact absurd e2' (by decide)
  have D:Draws X.prog X.w X.A.in1 ti [ti,a] i (λ_ _=>False) (λj g=>j=i/\g.IsTupleIter ti a i/\g.IsTuple a its.toArray) :=
   ⟨λ_ _ st=>let ⟨o,e,_⟩:=st.2.1; ⟨o,e⟩,
     λ_ _ _ st k=>⟨st.1,st.2.1.at λo e=>k ti (by simp) o e,let ⟨o,e,r⟩:=st.2.2; ⟨o,k a (by simp) o e,r⟩⟩,
     λj s Q E lt st q=>absurd st.1 (nNl lt),
     λs Q E st q=>nxT_end (I.ok.hd hc) st.2.1 st.2.2 (by simp; lia) q⟩
  exact wpAny_pyNext_enum_endD D st1 ⟨rfl,st2,pt⟩ λh' eb=>⟨rfl,I.turns (t':=s.toks) (ch:=[e,ti]) (λb o nb q=>eb b o (λz=>nb (by simp[z])) q) hf⟩
 ·obtain⟨⟨old,st1⟩,_⟩:=st
  exact wpAny_pyIter_enum st1 q
end L2
namespace L3
open PySem PySem.Spec PyProof.Rows L2
section
variable {X:Cx}{a:Expr}{pos p tpos:Pos}{t:TA3}{els:List Expr}{kk:Nat}
noncomputable def zd7(ts:List T):List T:=(List.range ts.length).map λ(i:Nat)=>T.tup [.int i,ts.getD i .non]
theorem enumT_get{ts:List T}{i:Nat}{t:T}(h:ts[i]?=some t):(zd7 ts)[i]?=some (.tup [.int i,t]):=by
 obtain⟨h1,h2⟩:=List.getElem?_eq_some_iff.mp h
 unfold zd7
 rw[List.getElem?_map,List.getElem?_range h1]
 simp[h]
noncomputable def iEnum(t:TA3):TI3:=λτ G R=>t τ G λts G1=>match ts with
 | [.tup us]=>R (zd7 us) (λ_=>True) G1
 | _=>False
theorem qi_enum(hm:X.mg "enumerate"=none) (ha:QA X [a] t) (hg:Gl X "enumerate":=by rfl) (hs:starEach [a] X.env=[(false,eval a X.env)]:=by rfl):QI X (.Tuple els kk tpos) (.Call (.Name "enumerate" p) [a] [] pos) (iEnum t):=by
 intro pins s σ H R I ⟨τ,G,Q3,st,r,h,im⟩
 refine Call_ (ze2 I hg hm boot_enumerate (PyProof.Rows.callWith_type1 (thn (ha pos pins s σ H (λvs H1=>∃ ts G1,(match ts with
  | [.tup us]=>Q3 (zd7 us) (λ_=>True) G1
  | _=>False)/\Kp H H1/\Dens X.kw H1 vs ts/\HR X.kw H1 G1) I ⟨τ,G,_,st,r,h,λts G1 vs H1 h1 k1 d1 r1=>⟨ts,G1,h1,k1,d1,r1⟩⟩) λus s1 ⟨vs,H1,I1,rv,ts,G1,h1,k1,d1,r1⟩=>?_) hs rfl))
 split at h1
 ·rename_i us'
  cases d1 with
  | cons d d2 =>
   cases d2
   cases d with
   | tup q ds =>
    rename_i a' xs
    cases rv with
    | cons rv0 rv1 =>
     cases rv1
     cases rv0
     obtain⟨its,rr,pt,hz⟩:=I1.tuple q
     refine call_enumT (show s1.heap.IsTuple a' its.toArray from pt) λg e1 e2 kp=>?_
     have I2:Inv X pins σ H1 { s1 with heap:=g }:=I1.kept (t':=s1.toks) kp
     refine wpAny_pyIter_enum (s:={ s1 with heap:=g }) e1 ⟨_,[s1.heap.objs.size+1,s1.heap.objs.size],_,Ite X.K a',H1,rfl,I2,turn_enumT a' _ _ (Nat.succ_ne_self _),⟨⟨_,e1⟩,e2⟩,λb hb=>?_,im _ _ G1 _ H1 h1 k1 r1 ⟨λj H2 G2 kk _ _ hj=>?_,λj H2 G2 y H3 kk r2 _ hj hy=>?_,λj H2 G2 kk _ _ hj=>?_⟩⟩
     ·have fr:H1 b=none:=by
       rcases List.mem_cons.mp hb with z | z
       ·subst z; exact I1.hok.fresh (Nat.le_succ _)
       ·obtain rfl:=List.mem_singleton.mp z
        exact I1.hok.fresh (nLr _)
      rcases List.mem_cons.mp hb with z | z
      ·subst z; exact I1.fpOk (Nat.le_succ _) fr
      ·obtain rfl:=List.mem_singleton.mp z
       exact I1.fpOk (nLr _) fr
     ·have hj':j < xs.length:=by rw[ds.length]; simpa [zd7] using hj
      exact⟨xs,xs[j],kk.sqT q,by simp[hj']⟩
     ·obtain⟨y',t',hy1,hn,e,e'⟩:=hy
      subst e; subst e'
      obtain⟨tt,et,dt⟩:=(ds.mono kk).getV (hy1 xs (kk.sqT q))
      exact⟨Kp.new hn,r2.lay hn,_,enumT_get et,.tup (SqT.of zal) (.cons (.int _) (.cons (dt.mono (Kp.new hn)) .nil))⟩
     ·exact⟨xs,kk.sqT q,by rw[ds.length]; simpa [zd7] using hj⟩
 ·exact h1.elim
end
end L3
namespace L2
open PySem PySem.Spec PyProof.Rows
section
variable {prog:Program}{w:World}{A:Around}{E:Value->Shared->Prop}{s:Shared}
theorem zhG{a:Value}{vs:List Value}{ns:List Int}{Q:Value->Shared->Prop}(hI:IntsAre vs ns)(h64:vs.length < 64)
  (hc:∀ (A':Around) (E':Value->Shared->Prop) (Q':List Value->Shared->Prop),A'.handled=A.handled->(∀ h' tk,(∀ b o,s.heap.get? b=some o->h'.get? b=some o)->Q' vs { s with heap:=h',toks:=tk })->wpAny (model prog w) A' (collect a) Q' E' s)
  (h:∀ (h1 h':Heap) (tk:Nat) (p:Addr) (e:Nat) (out:List Value) (ns':List Int),(∀ b o,s.heap.get? b=some o->h1.get? b=some o)->(∀ b o,h1.get? b=some o->h'.get? b=some o)->h1.objs.size<=p->h'.get? p=some (seqObj "list" out.toArray e)->IntsAre out ns'->ns'.Perm ns->ns'.Pairwise (·<=·)->Q (.ref p) { s with heap:=h',toks:=tk }) :
  wpAny (model prog w) A (call (.builtin "sorted") [a]) Q E s:=by
 refine Calls.call_function_entry kind_sorted plain_sorted entry_sorted (args_sorted1 _) ?_
 unfold Builtin.«sorted»
 refine wpAny_bind (m:=checkCount "sorted" 1 1 _) (wpAny_pure ?_)
 refine wB (hc _ _ _ rfl λh1 tk k1=>?_)
 refine wpAny_bind (wpAny_newList ?_ (by rw[sizeLine_eq]; lia))
 have hoL:(h1.push (seqObj "list" vs.toArray 0)).get? h1.objs.size=some (seqObj "list" vs.toArray 0):=Heap.get?_push_size _ rfl
 refine wpAny_bind (wpAny_holding (wpAny_call_entry (s:={ s with heap:=h1.push (seqObj "list" vs.toArray 0),toks:=tk }) slot_list_sort ⟨_,hoL,rfl⟩ entry_list_sort (list_sort_tree hoL hI h64 λout ns' a1 a2 a3=>⟨_,rfl,?_⟩) (args_list_sort _)))
 refine wQ ⟨_,rfl,?_⟩
 obtain⟨e,he⟩:=sortedHeap_at (out:=out) hoL
 refine h h1 _ tk _ e out.toList ns' k1 (λb o q1=>?_) (Nat.le_refl _) (by simpa using he) a1 a2 a3
 have lt:=hLz q1
 rw[sortedHeap_old (Nat.ne_of_lt lt) (by rw[Heap.size_push]; exact Nat.lt_succ_of_lt lt)]
 exact hPs _ q1
end
end L2
namespace L3
open PySem PySem.Spec PyProof.Rows L2
section
variable {X:Cx}{e a b c o i l:Expr}{es:List Expr}{pos apos p p2:Pos}{ta tb tc tv to ti tl:TE3}{t:TA3}{k:Nat}{tg:Expr}{st:Stmt}
theorem qgt(ha:QE X a ta)(hb:QE X b tb):QE X (.Compare a [.Gt] [b] pos) (wOp (iI0 λi j=>.bl (decide (j < i))) ta tb):=qcmp op_gt (lI0 λ_ _ _=>.bl _) ha hb
noncomputable def ziy(ta:TE3):TE3:=λτ G Q=>ta τ G λx G1=>match zdy x G1 with
 | some b=>Q (.bl (!b)) G1
 | none=>False
noncomputable def zaX:List T->Gp->VK3->Prop:=λts G Q=>match ts with
 | [.tup us]=>Q (.int us.length) G
 | [.fro us]=>Q (.int us.length) G
 | [.ref q]=>(match G q with
  | some (.lst us)=>Q (.int us.length) G
  | some (.dK kvs)=>Q (.int kvs.length) G
  | _=>False)
 | _=>False
theorem zdw(hm:X.mg "len"=none) (ha:QA X (e::es) t) (hg:Gl X "len":=by rfl) (he:starEach (e::es) X.env=(false,eval e X.env)::starEach es X.env:=by rfl) (hpl:(backTo pos (starEach es X.env)).any (·.1)=false:=by rfl) :
  QE X (.Call (.Name "len" p) (e::es) [] pos) (wCB zaX t):=zgv (zcV.or zii call_lenD) (λH G xs ts Q Q3 d r h im=>by
 unfold zaX at h
 split at h
 ·cases d with
  | cons d1 d2 =>
   cases d2
   cases d1 with
   | tup q ds=>exact .inl ⟨_,_,rfl,.inr q,im _ G _ H (by rw[ds.length]; exact h) (Kp.refl _) (.int _) r⟩
 ·cases d with
  | cons d1 d2 =>
   cases d2
   cases d1 with
   | fro q ds=>exact .inl ⟨_,_,rfl,.inl q.sq,im _ G _ H (by rw[ds.length]; exact h) (Kp.refl _) (.int _) r⟩
 ·cases d with
  | cons d1 d2 =>
   cases d2
   cases d1
   split at h
   ·rename_i us eg
    obtain⟨xs,e1,ds⟩:=r _ _ eg
    exact .inl ⟨_,xs,rfl,.inl (SqL.of e1),im _ G _ H (by rw[ds.length]; exact h) (Kp.refl _) (.int _) r⟩
   ·rename_i kvs eg
    obtain⟨ks,e1,ds⟩:=r _ _ eg
    exact .inr ⟨_,ks,rfl,e1,im _ G _ H (by rw[Paired.length ds]; exact h) (Kp.refl _) (.int _) r⟩
   ·exact h.elim
 ·exact h.elim) hm boot_len ha hg (by decide) (by decide) he hpl
noncomputable def ze3:List T->Option (List Int)
 | []=>some []
 | .int n::r=>(ze3 r).map (n::·)
 | _::_=>none
theorem zfP:∀ {ts:List T} {ns:List Int},ze3 ts=some ns->ts=ns.map T.int
 | [],ns,h=>by cases h; rfl
 | .int n::r,ns,h=>by
  simp only[ze3,Option.map_eq_some_iff]at h
  obtain⟨ms,h1,rfl⟩:=h
  rw[zfP h1]; rfl
 | .non::_,_,h=>by cases h
 | .bl _::_,_,h=>by cases h
 | .str _::_,_,h=>by cases h
 | .ref _::_,_,h=>by cases h
 | .tup _::_,_,h=>by cases h
 | .fro _::_,_,h=>by cases h
 | .ty _::_,_,h=>by cases h
theorem zgA:∀ (ns:List Int),ze3 (ns.map T.int)=some ns
 | []=>rfl
 | n::r=>by simp[ze3,zgA r]
theorem zdP{K:KW}{H:Hp}:∀ {vs:List V} {ns:List Int},Dens K H vs (ns.map T.int)->vs=ns.map V.int
 | _,[],.nil=>rfl
 | _,n::r,.cons d ds=>by cases d; rw[zdP ds]; rfl
theorem zdB:∀ {ns:List Int} {us:List Value},zaM (ns.map V.int) us->IntsAre us ns
 | [],_,.nil=>.nil
 | n::r,_,.cons ⟨t,e⟩ rr=>by subst e; exact .cons n t (zdB rr)
noncomputable def zf4(ns:List Int):List Int:=ns.mergeSort λa b=>decide (a<=b)
theorem zgs(ns:List Int):(zf4 ns).Perm ns:=List.mergeSort_perm _ _
theorem sortI_le(ns:List Int):(zf4 ns).Pairwise (·<=·):=by
 have:=List.pairwise_mergeSort (le:=λa b:Int=>decide (a<=b)) (λa b c=>by simp; lia) (λa b=>by simp; lia) ns
 exact this.imp λh=>by simpa using h
theorem zjm{ms ns:List Int}(p:ms.Perm ns)(s:ms.Pairwise (·<=·)):ms=zf4 ns :=
 (p.trans (zgs ns).symm).eq_of_pairwise (le:=λa b=>a<=b) (λa b _ _ h1 h2=>by lia) s (sortI_le ns)
noncomputable def srt3:List T->Gp->VK3->Prop:=λts G Q=>match ts with
 | [.ref q]=>(match G q with
  | some (.lst us)=>(match ze3 us with
   | some ns=>ns.length < 64/\∀ p,G p=none->Q (.ref p) (updG G p (.lst ((zf4 ns).map T.int)))
   | none=>False)
  | some (.dK kvs)=>(match ze3 (kvs.map λkv=>kT kv.1)with
   | some ns=>ns.length < 64/\∀ p,G p=none->Q (.ref p) (updG G p (.lst ((zf4 ns).map T.int)))
   | none=>False)
  | _=>False)
 | _=>False
noncomputable def rSrt(K:KW):List V->Hp->VK->Prop:=λxs H Q=>∃ q ts G Q3,xs=[.ref q]/\ts=[T.ref q]/\HR K H G/\srt3 ts G Q3/\Imp K H Q3 Q
theorem zgr{pins:List (Addr×Obj)}{σ:L2.St}{H:Hp}{s:Shared}{G:Gp}{Q:VK}{Q3:VK3}{ns ns':List Int}{out:List Value}{h1 h':Heap}{tk e:Nat}{p:Addr}(I:Inv X pins σ H s)(r:HR X.kw H G)(im:Imp X.kw H Q3 Q)
  (h:∀ p,G p=none->Q3 (.ref p) (updG G p (.lst ((zf4 ns).map T.int)))) (hl:ns.length < 64) (k1:∀ b o,s.heap.get? b=some o->h1.get? b=some o) (k2:∀ b o,h1.get? b=some o->h'.get? b=some o) (hp:h1.objs.size<=p)
  (e1:h'.get? p=some (seqObj "list" out.toArray e)) (hi:IntsAre out ns') (pm:ns'.Perm ns) (so:ns'.Pairwise (·<=·)):EP X pins σ Q (.ref p) { s with heap:=h',toks:=tk }:=by
 have I1:Inv X pins σ H { s with heap:=h1,toks:=tk }:=I.kept k1
 have es:=zjm pm so
 subst es
 have hn:=I1.hok.fresh hp
 have hlen:((zf4 ns).map V.int).length<=sizeLine:=by rw[List.length_map,(zgs ns).length_eq,sizeLine_eq]; lia
 have I2:Inv X pins σ (upd H p (.lst ((zf4 ns).map V.int))) { s with heap:=h',toks:=tk }:=I1.laid (t':=tk) k2 hp ⟨hlen,out,e,zfq hi,e1⟩
 exact⟨.ref p,_,I2,rfl,im _ _ _ _ (h p (r.free hn)) (Kp.new hn) (.ref p) (r.new (o:=.lst ((zf4 ns).map T.int)) hn ⟨_,zal,Dens.ints _⟩)⟩
theorem zih(hc:X.calm=true):zcV X (.builtin "sorted") (rSrt X.kw):=by
 intro pins s σ H xs us Q I rv h
 obtain⟨q,ts,G,Q3,rfl,rfl,r,h,im⟩:=h
 obtain⟨u,rfl,ru⟩:=vals1 rv
 cases ru
 simp only[srt3]at h
 split at h
 ·rename_i vs eg
  split at h
  ·rename_i ns en
   have e0:=zfP en
   subst e0
   obtain⟨ys,e1,ds⟩:=r q _ eg
   have e2:=zdP ds
   subst e2
   obtain⟨its,rr,pl,hz⟩:=I.list (SqL.of e1)
   have hi:=zdB rr
   have hlen:=hi.length
   refine zhG hi (by lia) (λA' E' Q' _ q'=>collect_list pl.isList (q' _ s.toks λb o z=>?_) (by rw[sizeLine_eq]; lia)) λh1 h' tk p e out ns' k1 k2 hp e1 hi' pm so=>zgr I r im h.2 h.1 k1 k2 hp e1 hi' pm so
   have lt:=hLz z
   rw[Heap.get?_update_ne _ _ _ _ (Nat.ne_of_lt lt)]
   exact hPs _ z
  ·exact h.elim
 ·rename_i kvs eg
  split at h
  ·rename_i ns en
   have e0:=zfP en
   obtain⟨ks,e1,ds⟩:=r q _ eg
   obtain⟨z,nd,vs,rel,o,ees,ep,g1,g2,g3,g4,g5,g6⟩:=dk_of I.hok e1
   have dk:=zeu ds
   rw[e0]at dk
   have vk:=zea g5 rel
   rw[zdP dk]at vk
   have hi:=zdB vk
   have hlen:=hi.length
   have hes:ees.size=ns.length:=by rw[<- hlen,List.length_map,Array.length_toList]
   refine zhG hi (by lia) (λA' E' Q' hA q'=>zfr (raw_src (ep:=ep) nd) (by rw[hA]; exact I.ok.hd hc) ⟨o,g1,g2,g3⟩ (by rw[hes,sizeLine_eq]; lia) λh' tk acc kp items=>?_) λh1 h' tk p e out ns' k1 k2 hp e1 hi' pm so=>zgr I r im h.2 h.1 k1 k2 hp e1 hi' pm so
   have el:acc.toList=ees.toList.map (·.key):=by
    refine List.ext_getElem? λj=>?_
    rw[Array.getElem?_toList,List.getElem?_map,Array.getElem?_toList]
    cases e:acc[j]? with
    | some v=>exact(items.2 j v e).symm
    | none =>
     have:acc.size<=j:=by simpa using e
     rw[items.1]at this
     rw[Array.getElem?_eq_none this]; rfl
   rw[el]
   exact q' h' tk kp
  ·exact h.elim
 ·exact h.elim
theorem qsorted(hm:X.mg "sorted"=none) (ha:QA X (e::es) t) (hg:Gl X "sorted":=by rfl) (he:starEach (e::es) X.env=(false,eval e X.env)::starEach es X.env:=by rfl) (hpl:(backTo pos (starEach es X.env)).any (·.1)=false:=by rfl) (hc:X.calm=true:=by rfl) :
  QE X (.Call (.Name "sorted" p) (e::es) [] pos) (wCB srt3 t):=zgv (zih hc) (λH G xs ts Q Q3 d r h im=>by
 unfold srt3 at h
 split at h
 ·cases d with
  | cons d1 d2 =>
   cases d2
   cases d1
   exact⟨_,_,G,Q3,rfl,rfl,r,h,im⟩
 ·exact h.elim) hm boot_sorted ha hg (by decide) (by decide) he hpl
end
end L3
namespace L2
open PySem PySem.Spec PyProof.Rows
section
theorem vals_vals{vs:List (Key×Value)}{xs:List (Key×V)}(q:KV xs vs):zaM (xs.map (·.2)) (vs.map (·.2)):=by
 induction q with
 | nil=>exact .nil
 | cons h _ ih=>exact .cons h.2 ih
theorem turn_vals{P:Program}{w:World}{K:PySem.W.Frag}{tg:Expr}{kvs:List (Key×Value)}{es:Array DictEntry}{ep:Nat}{vs:List V}(p it:Addr)(o:Obj)(hx:o.ExactDict)(hd:o.data=.dict es ep)(hk:KeysOf (zaE P w) es)(hp:Pairs (zaE P w) es.toList kvs)(hn:(kvs.map (·.1)).Nodup)(rv:zaM vs (kvs.map (·.2))) :
  Turn P w K tg (Itd p o vs) [it] it (λi h=>h.IsValIter it p i kvs.length ep):=by
 have hlen:vs.length=kvs.length:=by have:=rv.length; simpa using this
 refine⟨by simp,λi h st b hb=>?_,λi h h' st k=>?_,?_,?_,λA i s Q E st q=>?_⟩
 ·have e:b=it:=by simpa using hb
  subst e
  obtain⟨o,e,c,d⟩:=st
  exact⟨o,e,λv z=>by rw[d]at z; cases z⟩
 ·obtain⟨o,e,r⟩:=st
  exact⟨o,k it (by simp) o e,r⟩
 ·intro X hP hw hK hc i pins s σ H E I hf st hg
  subst hP hw hK
  obtain⟨f0,f1,f2,f3,f4,f5⟩:=hf it (by simp)
  obtain⟨lt,u,eH⟩:=hg
  have lt':i < kvs.length:=by lia
  have dm:s.heap.DictAt (zaE X.prog X.w) p kvs ep:=⟨o,es,(I.hok p _ eH).1,hx,hd,hk,hp,hn⟩
  refine wpAny_pyNext_values_item (k:=kvs[i].1) (v:=kvs[i].2) st dm (by simp[lt']) λh' st' sb=>?_
  have I1:Inv X pins σ H { s with heap:=h' }:=I.turned (t':=s.toks) (λb o hb e=>(sb.2 b hb).trans e) f0 f1 f3 f4 f5
  obtain⟨oi,e,c,d⟩:=id st'
  obtain⟨x,hx1,hx2⟩:∃ x,vs[i]?=some x/\zaK x kvs[i].2:=by
   obtain⟨u',hu,ru⟩:=rv.get (x:=vs[i]) (i:=i) (by simp[lt])
   refine⟨vs[i],by simp[lt],?_⟩
   rw[List.getElem?_map,List.getElem?_eq_getElem lt']at hu
   simp only[Option.map_some,Option.some.injEq]at hu
   rw[hu]; exact ru
  exact⟨_,rfl,go_of (s:={ s with heap:=h' }) e c d (by decide) ⟨x,H,I1,hx2,⟨rfl,hx1⟩,st',λb hb=>(hf b hb).1⟩⟩
 ·intro X hP hw hK hc i pins s σ H E I hf st hg
  subst hP hw hK
  obtain⟨f0,f1,f2,f3,f4,f5⟩:=hf it (by simp)
  obtain⟨ge,u,eH⟩:=hg
  have dm:s.heap.DictAt (zaE X.prog X.w) p kvs ep:=⟨o,es,(I.hok p _ eH).1,hx,hd,hk,hp,hn⟩
  exact wpAny_pyNext_values_end (I.ok.hd hc) st dm (by simp; lia) λh' eb=>⟨rfl,I.turned (t':=s.toks) (λb o hb e=>eb b o hb e) f0 f1 f3 f4 f5⟩
 ·obtain⟨o,e,c,d⟩:=st
  have ty:s.TypeIs (.ref it) "dict_valueiterator":=⟨o,e,c⟩
  refine wpAny_pyIter_slot ty F.slot_dict_valueiterator_iter (wpAny_call_entry F.slot_dict_valueiterator_iter ty entry_dict_valueiterator_iter ?_ (F.args_dict_valueiterator_iter_1 _))
  exact wpAny_pure ⟨_,rfl,"dict_valueiterator",_,ty,F.slot_dict_valueiterator_next.lookup,q⟩
end
end L2
namespace L3
open PySem PySem.Spec PyProof.Rows L2
section
variable {X:Cx}{e a b c o i l:Expr}{es:List Expr}{pos apos p p2:Pos}{ta tb tc tv to ti tl:TE3}{t:TA3}{k:Nat}{tg:Expr}{st:Stmt}
theorem dens_vals{K:KW}{H:Hp}{xs:List (Key×V)}{kvs:List (Key×T)}(h:zdW K H xs kvs):Dens K H (xs.map (·.2)) (kvs.map (·.2)):=by
 induction h with
 | nil=>exact .nil
 | cons h _ ih=>exact .cons h.2 ih
noncomputable def iVals(tl:TE3):TI3:=λτ G R=>tl τ G λx G1=>match x with
 | .ref q=>(match G1 q with
  | some (.dK kvs)=>∀ ob,R (kvs.map (·.2)) (λG=>G q=some (.dF ob kvs)) (updG G1 q (.dF ob kvs))
  | _=>False)
 | _=>False
theorem qi_vals(hl:QE X l tl)(hbase:attributeBase l "values" X.env (eval l X.env)=eval l X.env:=by rfl) (hline:(apos.endLine==pos.line)=true:=by rfl):QI X tg (.Call (.Attribute l "values" apos) [] [] pos) (iVals tl):=by
 intro pins s σ H R I ⟨τ,G,Q3,st,r,h,im⟩
 refine wpAny_Call_method0_late hbase hline (thn (hl pins s σ H (λv H1=>∃ x G1,iVals (λ_ _ Q=>Q x G1) τ G1 Q3/\Kp H H1/\Den X.kw H1 v x/\HR X.kw H1 G1) I ⟨τ,G,_,st,r,h,λx G1 v H1 h1 k1 d1 r1=>⟨x,G1,h1,k1,d1,r1⟩⟩) λv s1 ⟨vv,H1,I1,rv,x,G1,h1,k1,d1,r1⟩=>?_)
 unfold iVals at h1
 cases d1 with
 | ref q =>
  cases rv
  simp only at h1
  split at h1
  ·rename_i kvs eg
   obtain⟨ks,e1,ds⟩:=r1 q _ eg
   obtain⟨z,nd,vs,rel,o,es,ep,g1,g2,g3,g4,g5,g6⟩:=dk_of I1.hok e1
   have ty:s1.TypeIs (.ref q) "dict":=⟨o,g1,g2.1⟩
   refine⟨"dict","dict.values",PySem.F.plainAttrs_dict,PySem.F.slot_dict_values,PySem.F.type_dict_values,ty,λb e=>?_,Calls.callWith_builtin rfl (PySem.evalArgs_none ?_)⟩
   ·cases e; exact⟨o,g1,g2.2.1⟩
   refine call_meetsIn PySem.F.slot_dict_values ty PySem.F.entry_dict_values (PySem.F.args_dict_values_1 _) (meets_dict_values (zaE X.prog X.w) q nd) ⟨⟨vs,o,es,ep,g1,g2,g3,g4,g5,g6⟩,?_⟩
   have kp:∀ b o',s1.heap.get? b=some o'->(s1.heap.push { cls:=.type "dict_values",data:=.fields #[.ref q] }).get? b=some o':=λb o' e=>Heap.get?_push_of_some _ e
   have I2:Inv X pins σ H1 { s1 with heap:=s1.heap.push { cls:=.type "dict_values",data:=.fields #[.ref q] } }:=I1.kept (t':=s1.toks) kp
   refine wpAny_pyIter_values (knd:=zaE X.prog X.w) (s:={ s1 with heap:=s1.heap.push { cls:=.type "dict_values",data:=.fields #[.ref q] } }) (d:=q) (kvs:=vs) (ep:=ep) ⟨_,Heap.get?_push_size _ rfl,rfl,rfl⟩ ⟨o,es,kp q o g1,g2,g3,g4,g5,g6⟩ ?_
   have I3:Inv X pins σ (upd H1 q (.frz o (.dK ks))) { s1 with heap:=s1.heap.push { cls:=.type "dict_values",data:=.fields #[.ref q] } }:=I2.freeze e1 trivial (kp q o g1)
   have kf:Kp H1 (upd H1 q (.frz o (.dK ks))):=Kp.mut (by rw[e1]; trivial)
   have r2:HR X.kw (upd H1 q (.frz o (.dK ks))) (updG G1 q (.dF o kvs)):=r1.put eg ⟨ks,zal,zdW.mono kf ds⟩
   refine⟨_,[_],_,Itd q o (ks.map (·.2)),_,rfl,I3.kept (t':=s1.toks) λb o e=>hPs _ e,turn_vals q _ o g2 g3 g4 g5 g6 (vals_vals rel),⟨_,hPz _ rfl,rfl,rfl⟩,λb hb=>?_,im _ _ _ _ _ (h1 o) (k1.trans kf) r2 (itd_ok ((dens_vals ds).mono kf) λH' G' r' hs=>?_)⟩
   ·obtain rfl:=List.mem_singleton.mp hb
    exact I3.fpOk (nLr _) (I3.hok.fresh (nLr _))
   ·obtain⟨ks',e',_⟩:=r' q _ hs
    exact⟨_,e'⟩
  ·exact h1.elim
 | _=>exact False.elim h1
end
end L3
namespace M
inductive Let where
 | prepare (b:Int)
 | promise (b:Int) (v:Nat) (l:Option (Int×Int))
 | ask (b w:Int)
 | vote (b:Int) (v:Nat) (w:Int)
 deriving DecidableEq
noncomputable def Let.bal:Let->Int
 | .prepare b=>b
 | .promise b _ _=>b
 | .ask b _=>b
 | .vote b _ _=>b
structure Asker where
 ballot:Option Int
 last:Option Int
 noted:List (Nat×Option (Int×Int))
 asked:Bool
structure Voter where
 promised:Option Int
 voted:Option (Int×Int)
structure St where
 wishes:List Int
 many:Nat
 letters:List Let
 askers:Nat->Asker
 voters:Nat->Voter
 backers:Int->Option (List Nat)
noncomputable def upd{α β:Type} [DecidableEq α](f:α->β)(a:α)(x:β):α->β:=λj=>if j=a then x else f j
@[grind =] theorem zeA {α β:Type} [DecidableEq α] (f:α->β) (a:α) (x:β) (j:α):upd f a x j=if j=a then x else f j:=rfl
noncomputable def write(L:List Let)(x:Let):List Let:=if x∈L then L else L++[x]
@[grind =] theorem zen {L:List Let} {x y:Let}:y∈write L x↔y∈L∨y=x:=by
 unfold write; split<;>grind
theorem zdl{L:List Let}{x:Let}(h:L.Nodup):(write L x).Nodup:=by
 unfold write; split
 ·exact h
 ·rename_i hx
  rw[List.nodup_append]
  refine⟨h,by simp,?_⟩
  intro a ha b hb
  simp at hb
  subst hb
  intro e
  exact hx (e ▸ ha)
noncomputable def put{α:Type}(k:Nat)(x:α):List (Nat×α)->List (Nat×α)
 | []=>[(k,x)]
 | (j,y)::r=>if j=k then (j,x)::r else (j,y)::put k x r
theorem mem_put{α:Type}{k:Nat}{x:α}:∀ {l:List (Nat×α)} {p:Nat×α},p∈put k x l->p=(k,x)∨p∈l
 | [],p,h=>by simp[put]at h; exact .inl h
 | (j,y)::r,p,h=>by
  unfold put at h
  split at h
  ·rename_i e; subst e
   rcases List.mem_cons.mp h with h | h
   ·exact .inl h
   ·exact .inr (lMc _ h)
  ·rcases List.mem_cons.mp h with h | h
   ·exact .inr (h ▸ List.mem_cons_self)
   ·rcases mem_put h with h | h
    ·exact .inl h
    ·exact .inr (lMc _ h)
theorem zjt{α:Type}{k:Nat}{x:α}:∀ {l:List (Nat×α)} {j:Nat},j∈(put k x l).map (·.1)↔j=k∨j∈l.map (·.1)
 | [],j=>by simp[put]
 | (i,y)::r,j=>by
  unfold put
  split
  ·rename_i e; subst e; simp
  ·simp only[List.map_cons,List.mem_cons,zjt (l:=r)]; grind
theorem put_nodup{α:Type}{k:Nat}{x:α}:∀ {l:List (Nat×α)},(l.map (·.1)).Nodup->((put k x l).map (·.1)).Nodup
 | [],_=>by simp[put]
 | (i,y)::r,h=>by
  unfold put
  simp only[List.map_cons,List.nodup_cons]at h
  split
  ·simpa using h
  ·rename_i e
   simp only[List.map_cons,List.nodup_cons]
   refine⟨?_,put_nodup h.2⟩
   rw[zjt]
   grind
noncomputable def zfX(acc:Option (Int×Int))(p:Nat×Option (Int×Int)):Option (Int×Int) :=
 match p.2 with
 | none=>acc
 | some q=>match acc with
  | none=>some q
  | some a=>if a.1 < q.1 then some q else some a
noncomputable def best(l:List (Nat×Option (Int×Int))):Option (Int×Int):=l.foldl zfX none
theorem zhu(l:List (Nat×Option (Int×Int))):∀ acc:Option (Int×Int),
  (l.foldl zfX acc=none->acc=none/\∀ v q,(v,some q)∉l) /\
  (∀ q,l.foldl zfX acc=some q->(acc=some q∨∃ v,(v,some q)∈l)/\(∀ a,acc=some a->a.1<=q.1)/\∀ v c,(v,some c)∈l->c.1<=q.1):=by
 induction l with
 | nil=>intro acc; simp only[List.foldl_nil]; grind
 | cons p r ih =>
  intro acc
  obtain⟨v,o⟩:=p
  rw[List.foldl_cons]
  have:=ih (zfX acc (v,o))
  cases o with
  | none=>simp only[zfX]at this ⊢; grind
  | some q=>cases acc with
   | none=>simp only[zfX]at this ⊢; grind
   | some a=>simp only[zfX]at this ⊢; grind
theorem best_none{l:List (Nat×Option (Int×Int))}(h:best l=none)(v:Nat)(q:Int×Int):(v,some q)∉l:=((zhu l none).1 h).2 v q
theorem best_mem{l:List (Nat×Option (Int×Int))}{q:Int×Int}(h:best l=some q):∃ v,(v,some q)∈l:=by
 have:=((zhu l none).2 q h).1; simpa using this
theorem best_ge{l:List (Nat×Option (Int×Int))}{q:Int×Int}(h:best l=some q){v:Nat}{c:Int×Int}(hc:(v,some c)∈l):c.1<=q.1:=((zhu l none).2 q h).2.2 v c hc
noncomputable def own(n:Nat)(b:Int):Nat:=(b % (n:Int)).toNat
noncomputable def St.low(S:St)(a:Nat)(least:Int):Int:=match (S.askers a).last with
 | none=>least
 | some l=>max least (l+1)
noncomputable def St.due(S:St)(a:Nat)(least:Int):Int:=S.low a least+((a:Int) - S.low a least) % (S.wishes.length:Int)
noncomputable def St.begin(S:St)(a:Nat)(least:Int):St :=
 { S with askers:=upd S.askers a ⟨some (S.due a least),some (S.due a least),[],false⟩,letters:=write S.letters (.prepare (S.due a least)) }
noncomputable def St.fall(S:St)(a:Nat):St:={ S with askers:=upd S.askers a { S.askers a with ballot:=none } }
noncomputable def St.wishOf(S:St)(b:Int)(l:List (Nat×Option (Int×Int))):Int:=match best l with
 | some q=>q.2
 | none=>S.wishes.getD (own S.wishes.length b) 0
noncomputable def keysOf(m:Nat)(l:List (Nat×Option (Int×Int))):List Nat:=(List.range m).filter λv=>decide (v∈l.map (·.1))
noncomputable def St.note(S:St)(b:Int)(v:Nat)(l:Option (Int×Int)):St :=
 let A:=S.askers (own S.wishes.length b)
 if A.ballot=some b/\A.asked=false then
  let noted:=put v l A.noted
  if S.many < 2 * noted.length then
   { S with askers:=upd S.askers (own S.wishes.length b) { A with noted:=noted,asked:=true },backers:=upd S.backers b (some (keysOf S.many noted)),letters:=write S.letters (.ask b (S.wishOf b noted)) }
  else { S with askers:=upd S.askers (own S.wishes.length b) { A with noted:=noted } }
 else S
noncomputable def lt?(o:Option Int)(b:Int):Bool:=match o with
 | none=>true
 | some p=>decide (p < b)
noncomputable def le?(o:Option Int)(b:Int):Bool:=match o with
 | none=>true
 | some p=>decide (p<=b)
noncomputable def St.hear(S:St)(x:Let)(v:Nat):St:=match x with
 | .prepare b=>if lt? (S.voters v).promised b then
   { S with voters:=upd S.voters v ⟨some b,(S.voters v).voted⟩,letters:=write S.letters (.promise b v (S.voters v).voted) }else S
 | .ask b w=>if le? (S.voters v).promised b then
   { S with voters:=upd S.voters v ⟨some b,some (b,w)⟩,letters:=write S.letters (.vote b v w) }else S
 | .promise b u l=>S.note b u l
 | .vote _ _ _=>S
noncomputable def St.bring(S:St)(k v:Nat):St:=match S.letters[k]? with
 | some x=>S.hear x v
 | none=>S
noncomputable def new(wishes:List Int)(many:Nat):St:=⟨wishes,many,[],λ_=>⟨none,none,[],false⟩,λ_=>⟨none,none⟩,λ_=>none⟩
structure Inv(S:St):Prop where
 n0:0 < S.wishes.length
 nodup:S.letters.Nodup
 prep:∀ b,.prepare b∈S.letters->0<=b/\∃ l,(S.askers (own S.wishes.length b)).last=some l/\b<=l
 prom:∀ b v l,.promise b v l∈S.letters->v < S.many/\.prepare b∈S.letters/\∃ p,(S.voters v).promised=some p/\b<=p
 promU:∀ b v l l',.promise b v l∈S.letters->.promise b v l'∈S.letters->l=l'
 last1:∀ b v c w,.promise b v (some (c,w))∈S.letters->c < b/\.vote c v w∈S.letters
 last2:∀ b v l c w,.promise b v l∈S.letters->.vote c v w∈S.letters->c < b->∃ c' w',l=some (c',w')/\c<=c'
 vot:∀ b v w,.vote b v w∈S.letters->v < S.many/\.ask b w∈S.letters/\∃ c w',(S.voters v).voted=some (c,w')/\b<=c
 vd:∀ v c w,(S.voters v).voted=some (c,w)->.vote c v w∈S.letters/\∃ p,(S.voters v).promised=some p/\c<=p
 pd:∀ v p,(S.voters v).promised=some p->.prepare p∈S.letters
 askP:∀ b w,.ask b w∈S.letters->.prepare b∈S.letters/\∃ vs,S.backers b=some vs
 askU:∀ b w w',.ask b w∈S.letters->.ask b w'∈S.letters->w=w'
 back:∀ b vs,S.backers b=some vs->(∃ w,.ask b w∈S.letters)/\S.many < 2 * vs.length/\vs.Pairwise (· < ·)/\∀ v∈vs,∃ l,.promise b v l∈S.letters
 wish:∀ b w vs,.ask b w∈S.letters->S.backers b=some vs ->
  ((∀ v∈vs,.promise b v none∈S.letters)/\S.wishes[own S.wishes.length b]?=some w) ∨
  ∃ v,v∈vs/\∃ c,.promise b v (some (c,w))∈S.letters/\∀ u,u∈vs->∀ c' w',.promise b u (some (c',w'))∈S.letters->c'<=c
 bl:∀ a b,(S.askers a).ballot=some b->(S.askers a).last=some b
 lastp:∀ a l,(S.askers a).last=some l->.prepare l∈S.letters/\own S.wishes.length l=a
 noted:∀ a b v l,(S.askers a).ballot=some b->(v,l)∈(S.askers a).noted->.promise b v l∈S.letters
 notedU:∀ a,((S.askers a).noted.map (·.1)).Nodup
 opn:∀ a b,(S.askers a).ballot=some b->(S.askers a).asked=false->(∀ w,.ask b w∉S.letters)/\2 * (S.askers a).noted.length<=S.many
 done:∀ a b,(S.askers a).ballot=some b->(S.askers a).asked=true->∃ w,.ask b w∈S.letters
theorem Inv.new{wishes:List Int}{many:Nat}(h:0 < wishes.length):Inv (M.new wishes many):=by
 constructor<;>simp[M.new,h]
theorem due_ge(S:St)(a:Nat)(least:Int)(h:0 < S.wishes.length):S.low a least<=S.due a least:=by
 have:=Int.emod_nonneg ((a:Int) - S.low a least) (b:=(S.wishes.length:Int)) (by lia)
 unfold St.due; lia
theorem due_own(S:St){a:Nat}(least:Int)(h:a < S.wishes.length):own S.wishes.length (S.due a least)=a:=by
 unfold own St.due
 have e:(S.low a least+((a:Int) - S.low a least) % (S.wishes.length:Int)) % (S.wishes.length:Int)=(a:Int) % (S.wishes.length:Int):=by
  rw[Int.add_emod,Int.emod_emod,<- Int.add_emod]
  congr 1; lia
 rw[e,Int.emod_eq_of_lt (by lia) (by lia)]
 simp
theorem Inv.begin{S:St}(I:Inv S){a:Nat}{least:Int}(ha:a < S.wishes.length)(hl:0<=least):Inv (S.begin a least):=by
 have h1:=due_ge S a least I.n0
 have h2:=due_own S least ha
 have h3:least<=S.low a least:=by unfold St.low; split<;>lia
 have h4:∀ l,(S.askers a).last=some l->l < S.due a least:=by
  intro l e
  have:S.low a least=max least (l+1):=by unfold St.low; rw[e]
  lia
 generalize hb:S.due a least=b at *
 have h5:.prepare b∉S.letters:=by
  intro hm
  obtain⟨_,l,e,hle⟩:=I.prep b hm
  rw[h2]at e
  have:=h4 l e
  lia
 have h6:∀ w,.ask b w∉S.letters:=λw hm=>h5 (I.askP b w hm).1
 constructor
 ·exact I.n0
 ·exact zdl I.nodup
 all_goals simp only[St.begin,hb,zen,zeA]
 ·intro c hc
  have:=I.prep c
  by_cases e:own S.wishes.length c=a
  ·rw[if_pos e]; grind
  ·rw[if_neg e]; grind
 ·have:=I.prom; grind
 ·have:=I.promU; grind
 ·have:=I.last1; grind
 ·have:=I.last2; grind
 ·have:=I.vot; grind
 ·have:=I.vd; grind
 ·have:=I.pd; grind
 ·have:=I.askP; grind
 ·have:=I.askU; grind
 ·have:=I.back; grind
 ·have:=I.wish; grind
 ·have:=I.bl; grind
 ·have:=I.lastp; grind
 ·have:=I.noted; grind
 ·have:=I.notedU; grind
 ·have:=I.opn; grind
 ·have:=I.done; grind
theorem Inv.fall{S:St}(I:Inv S)(a:Nat):Inv (S.fall a):=by
 constructor
 ·exact I.n0
 ·exact I.nodup
 all_goals simp only[St.fall,zeA]
 ·intro c hc
  have:=I.prep c hc
  by_cases e:own S.wishes.length c=a
  ·rw[if_pos e]; grind
  ·rw[if_neg e]; grind
 ·exact I.prom
 ·exact I.promU
 ·exact I.last1
 ·exact I.last2
 ·exact I.vot
 ·exact I.vd
 ·exact I.pd
 ·exact I.askP
 ·exact I.askU
 ·exact I.back
 ·exact I.wish
 ·have:=I.bl; grind
 ·have:=I.lastp; grind
 ·have:=I.noted; grind
 ·have:=I.notedU; grind
 ·have:=I.opn; grind
 ·have:=I.done; grind
theorem Inv.hearP{S:St}(I:Inv S){b:Int}{v:Nat}(hb:.prepare b∈S.letters)(hv:v < S.many):Inv (S.hear (.prepare b) v):=by
 simp only[St.hear]
 split
 case isFalse=>exact I
 case isTrue hl =>
 have h1:∀ p,(S.voters v).promised=some p->p < b:=by
  intro p e; rw[e]at hl; simpa [lt?] using hl
 have h2:∀ l,.promise b v l∉S.letters:=by
  intro l hm
  obtain⟨_,_,p,e,hle⟩:=I.prom b v l hm
  have:=h1 p e
  lia
 generalize hq:(S.voters v).voted=q at *
 constructor
 ·exact I.n0
 ·exact zdl I.nodup
 all_goals simp only[zen,zeA]
 ·have:=I.prep; grind
 ·intro c u l
  have:=I.prom c u l
  by_cases e:u=v
  ·subst e; simp only[↓reduceIte]; grind
  ·simp only[if_neg e]; grind
 ·have:=I.promU; grind
 ·have:=I.last1; have:=I.vd; grind
 ·have h3:=I.last2; have h4:=I.vot
  intro c u l d w h5 h6 h7
  have h6:.vote d u w∈S.letters:=by grind
  rcases h5 with h5 | h5
  ·exact h3 c u l d w h5 h6 h7
  ·cases h5
   obtain⟨_,_,c',w',e,hle⟩:=h4 d v w h6
   exact⟨c',w',by rw[<- hq,e],hle⟩
 ·intro c u w
  have:=I.vot c u w
  by_cases e:u=v
  ·subst e; simp only[↓reduceIte]; grind
  ·simp only[if_neg e]; grind
 ·intro u c w'
  have:=I.vd u c w'
  by_cases e:u=v
  ·subst e; simp only[↓reduceIte]; grind
  ·simp only[if_neg e]; grind
 ·intro u p
  have:=I.pd u p
  by_cases e:u=v
  ·subst e; simp only[↓reduceIte]; grind
  ·simp only[if_neg e]; grind
 ·have:=I.askP; grind
 ·have:=I.askU; grind
 ·have:=I.back; grind
 ·have h3:=I.wish; have h4:=I.back
  intro c w vs h5 h6
  have h5:.ask c w∈S.letters:=by grind
  obtain⟨_,_,_,h7⟩:=h4 c vs h6
  rcases h3 c w vs h5 h6 with ⟨h8,h9⟩ | ⟨u,hu,d,h8,h9⟩
  ·exact .inl ⟨λu hu=>.inl (h8 u hu),h9⟩
  ·refine .inr ⟨u,hu,d,.inl h8,λu' hu' c' w' h10=>?_⟩
   have:c=b->u'≠v:=by
    intro e1 e2
    subst e1; subst e2
    obtain⟨l,hl'⟩:=h7 u' hu'
    exact h2 l hl'
   grind
 ·exact I.bl
 ·have:=I.lastp; grind
 ·have:=I.noted; grind
 ·exact I.notedU
 ·have:=I.opn; grind
 ·have:=I.done; grind
theorem Inv.hearA{S:St}(I:Inv S){b w:Int}{v:Nat}(hb:.ask b w∈S.letters)(hv:v < S.many):Inv (S.hear (.ask b w) v):=by
 simp only[St.hear]
 split
 case isFalse=>exact I
 case isTrue hl =>
 have h1:∀ p,(S.voters v).promised=some p->p<=b:=by
  intro p e; rw[e]at hl; simpa [le?] using hl
 have h0:=I.askP b w hb
 constructor
 ·exact I.n0
 ·exact zdl I.nodup
 all_goals simp only[zen,zeA]
 ·have:=I.prep; grind
 ·intro c u l
  have:=I.prom c u l
  by_cases e:u=v
  ·subst e; simp only[↓reduceIte]; grind
  ·simp only[if_neg e]; grind
 ·have:=I.promU; grind
 ·have:=I.last1; grind
 ·have h3:=I.last2; have h4:=I.prom
  intro c u l d w' h5 h6 h7
  have h5:.promise c u l∈S.letters:=by grind
  rcases h6 with h6 | h6
  ·exact h3 c u l d w' h5 h6 h7
  ·cases h6
   obtain⟨_,_,p,e,hle⟩:=h4 c v l h5
   have:=h1 p e
   lia
 ·intro c u w'
  have:=I.vot c u w'; have:=I.vd u
  by_cases e:u=v
  ·subst e; simp only[↓reduceIte]; grind
  ·simp only[if_neg e]; grind
 ·intro u c w'
  have:=I.vd u c w'
  by_cases e:u=v
  ·subst e; simp only[↓reduceIte]; grind
  ·simp only[if_neg e]; grind
 ·intro u p
  have:=I.pd u p
  by_cases e:u=v
  ·subst e; simp only[↓reduceIte]; grind
  ·simp only[if_neg e]; grind
 ·have:=I.askP; grind
 ·have:=I.askU; grind
 ·have:=I.back; grind
 ·have:=I.wish; grind
 ·exact I.bl
 ·have:=I.lastp; grind
 ·have:=I.noted; grind
 ·exact I.notedU
 ·have:=I.opn; grind
 ·have:=I.done; grind
theorem mem_keysOf{m:Nat}{l:List (Nat×Option (Int×Int))}{v:Nat}:v∈keysOf m l↔v < m/\v∈l.map (·.1):=by
 unfold keysOf; rw[List.mem_filter,List.mem_range]; simp
theorem keysOf_sorted(m:Nat)(l:List (Nat×Option (Int×Int))):(keysOf m l).Pairwise (· < ·):=List.Pairwise.filter _ List.pairwise_lt_range
theorem sorted_nodup{l:List Nat}(h:l.Pairwise (· < ·)):l.Nodup:=h.imp λh=>Nat.ne_of_lt h
theorem length_of_nodup{α:Type} [DecidableEq α]:∀ {l r:List α},l.Nodup->(∀ x∈l,x∈r)->l.length<=r.length
 | [],_,_,_=>Nat.zero_le _
 | x::l,r,nd,h=>by
  have hx:=h x List.mem_cons_self
  have hn:=List.nodup_cons.mp nd
  have h':∀ y∈l,y∈r.erase x:=λy hy=>by
   have:y≠x:=λe=>hn.1 (e ▸ hy)
   exact(List.mem_erase_of_ne this).mpr (h y (lMc _ hy))
  have:=length_of_nodup hn.2 h'
  rw[List.length_erase_of_mem hx]at this
  have:0 < r.length:=List.length_pos_of_mem hx
  simp only[List.length_cons]
  lia
theorem zhl{m:Nat}{l:List (Nat×Option (Int×Int))}(nd:(l.map (·.1)).Nodup)(h:∀ v x,(v,x)∈l->v < m):(keysOf m l).length=l.length:=by
 apply Nat.le_antisymm
 ·have:=length_of_nodup (r:=l.map (·.1)) (sorted_nodup (keysOf_sorted m l)) λx hx=>(mem_keysOf.mp hx).2
  simpa using this
 ·have:=length_of_nodup (r:=keysOf m l) nd λx hx=>mem_keysOf.mpr ⟨by
   obtain⟨p,hp,rfl⟩:=List.mem_map.mp hx
   exact h p.1 p.2 hp,hx⟩
  simpa using this
theorem Inv.note{S:St}(I:Inv S){b:Int}{v:Nat}{l:Option (Int×Int)}(hm:.promise b v l∈S.letters):Inv (S.note b v l):=by
 unfold St.note
 generalize ha:own S.wishes.length b=a
 dsimp only
 split
 case isFalse=>exact I
 case isTrue hc =>
 obtain⟨h1,h2⟩:=hc
 have k0:=I.opn a b h1 h2
 have n1:∀ u x,(u,x)∈put v l (S.askers a).noted->.promise b u x∈S.letters:=by
  intro u x hx
  rcases mem_put hx with h | h
  ·cases h; exact hm
  ·exact I.noted a b u x h1 h
 have n2:=put_nodup (k:=v) (x:=l) (I.notedU a)
 have n3:∀ u x,(u,x)∈put v l (S.askers a).noted->u < S.many:=λu x hx=>(I.prom b u x (n1 u x hx)).1
 have n4:=zhl n2 n3
 have hbL:=(I.prom b v l hm).2.1
 generalize hN:put v l (S.askers a).noted=N at *
 split
 case isFalse hmaj =>
  constructor
  ·exact I.n0
  ·exact I.nodup
  all_goals simp only[zeA]
  ·intro c hc
   have:=I.prep c hc
   by_cases e:own S.wishes.length c=a
   ·rw[if_pos e]; grind
   ·rw[if_neg e]; grind
  ·exact I.prom
  ·exact I.promU
  ·exact I.last1
  ·exact I.last2
  ·exact I.vot
  ·exact I.vd
  ·exact I.pd
  ·exact I.askP
  ·exact I.askU
  ·exact I.back
  ·exact I.wish
  ·have:=I.bl; grind
  ·have:=I.lastp; grind
  ·have:=I.noted; grind
  ·have:=I.notedU; grind
  ·have:=I.opn; grind
  ·have:=I.done; grind
 case isTrue hmaj =>
  have kv:∀ u,u∈keysOf S.many N->∃ x,(u,x)∈N:=by
   intro u hu
   obtain⟨p,hp,rfl⟩:=List.mem_map.mp (mem_keysOf.mp hu).2
   exact⟨p.2,hp⟩
  have kn:∀ u x,(u,x)∈N->u∈keysOf S.many N:=λu x hx=>mem_keysOf.mpr ⟨n3 u x hx,List.mem_map.mpr ⟨_,hx,rfl⟩⟩
  have kw:((∀ u,u∈keysOf S.many N->.promise b u none∈S.letters)/\S.wishes[a]?=some (S.wishOf b N)) ∨
    ∃ u,u∈keysOf S.many N/\∃ c,.promise b u (some (c,S.wishOf b N))∈S.letters/\∀ u',u'∈keysOf S.many N->∀ c' w',.promise b u' (some (c',w'))∈S.letters->c'<=c:=by
   cases hbest:best N with
   | none =>
    refine .inl ⟨λu hu=>?_,?_⟩
    ·obtain⟨x,hx⟩:=kv u hu
     cases x with
     | none=>exact n1 u none hx
     | some q=>exact absurd hx (best_none hbest u q)
    ·have hlt:a < S.wishes.length:=by
      rw[<- ha]; unfold own
      have h3:=Int.emod_nonneg b (b:=(S.wishes.length:Int)) (by have:=I.n0; lia)
      have h4:=Int.emod_lt_of_pos b (b:=(S.wishes.length:Int)) (by have:=I.n0; lia)
      lia
     unfold St.wishOf
     rw[hbest,ha]
     dsimp only
     rw[List.getD_eq_getElem?_getD,List.getElem?_eq_getElem hlt]
     rfl
   | some q =>
    obtain⟨u,hu⟩:=best_mem hbest
    have hw:S.wishOf b N=q.2:=by unfold St.wishOf; rw[hbest]
    refine .inr ⟨u,kn u _ hu,q.1,by rw[hw]; exact n1 u _ hu,λu' hu' c' w' hp=>?_⟩
    obtain⟨x,hx⟩:=kv u' hu'
    have:=I.promU b u' _ _ (n1 u' x hx) hp
    subst this
    exact best_ge hbest hx
  generalize hK:keysOf S.many N=Kk at *
  have kso:Kk.Pairwise (· < ·):=hK ▸ keysOf_sorted _ _
  generalize hW:S.wishOf b N=W at *
  constructor
  ·exact I.n0
  ·exact zdl I.nodup
  all_goals simp only[zeA,zen]
  ·intro c hc
   have:=I.prep c (by grind)
   by_cases e:own S.wishes.length c=a
   ·rw[if_pos e]; grind
   ·rw[if_neg e]; grind
  ·have:=I.prom; grind
  ·have:=I.promU; grind
  ·have:=I.last1; grind
  ·have:=I.last2; grind
  ·have:=I.vot; grind
  ·have:=I.vd; grind
  ·have:=I.pd; grind
  ·intro c w h
   have:=I.askP c w
   by_cases e:c=b
   ·subst e; simp only[↓reduceIte]; grind
   ·simp only[if_neg e]; grind
  ·have:=I.askU; grind
  ·intro c vs h
   have:=I.back c vs
   by_cases e:c=b
   ·subst e; simp only[↓reduceIte,Option.some.injEq]at h
    subst h
    refine⟨⟨W,.inr rfl⟩,by lia,kso,λu hu=>?_⟩
    obtain⟨x,hx⟩:=kv u hu
    exact⟨x,.inl (n1 u x hx)⟩
   ·simp only[if_neg e]at h; grind
  ·intro c w vs h h'
   have:=I.wish c w vs
   by_cases e:c=b
   ·subst e; simp only[↓reduceIte,Option.some.injEq]at h'
    subst h'
    have hw:w=W:=by
     rcases h with h | h
     ·exact absurd h (k0.1 w)
     ·cases h; rfl
    subst hw
    rw[ha]
    grind
   ·simp only[if_neg e]at h'; grind
  ·have:=I.bl; grind
  ·have:=I.lastp; grind
  ·have:=I.noted; grind
  ·have:=I.notedU; grind
  ·intro c d h h'
   have h3:=I.opn c d
   by_cases e:c=a
   ·subst e; simp only[↓reduceIte]at h'; cases h'
   ·simp only[if_neg e]at h h'
    have h4:=(I.lastp c d (I.bl c d h)).2
    have:d≠b:=by
     intro z; subst z; exact e (h4.symm.trans ha)
    simp only[if_neg e]
    grind
  ·intro c d h h'
   have h3:=I.done c d
   by_cases e:c=a
   ·subst e; simp only[↓reduceIte]at h
    rw[h1]at h; cases h
    exact⟨W,.inr rfl⟩
   ·simp only[if_neg e]at h h'
    obtain⟨w,hw⟩:=h3 h h'
    exact⟨w,.inl hw⟩
theorem Inv.hear{S:St}(I:Inv S){x:Let}{v:Nat}(hx:x∈S.letters)(hv:v < S.many):Inv (S.hear x v):=by
 cases x with
 | prepare b=>exact I.hearP hx hv
 | ask b w=>exact I.hearA hx hv
 | promise b u l=>exact I.note hx
 | vote b u w=>exact I
theorem Inv.bring{S:St}(I:Inv S)(k:Nat){v:Nat}(hv:v < S.many):Inv (S.bring k v):=by
 unfold St.bring
 split
 ·rename_i x e; exact I.hear (List.mem_of_getElem? e) hv
 ·exact I
noncomputable def Vs(S:St)(b w:Int):List Nat:=(List.range S.many).filter λv=>decide (.vote b v w∈S.letters)
noncomputable def Chosen(S:St)(b w:Int):Prop:=S.many < 2 * (Vs S b w).length
theorem mem_Vs{S:St}{b w:Int}{v:Nat}:v∈Vs S b w↔v < S.many/\.vote b v w∈S.letters:=by
 unfold Vs; rw[List.mem_filter,List.mem_range]; simp
theorem Vs_sorted(S:St)(b w:Int):(Vs S b w).Pairwise (· < ·):=List.Pairwise.filter _ List.pairwise_lt_range
theorem Chosen.ask{S:St}(I:Inv S){b w:Int}(h:Chosen S b w):.ask b w∈S.letters:=by
 unfold Chosen at h
 obtain⟨v,hv⟩:=List.exists_mem_of_length_pos (l:=Vs S b w) (by lia)
 exact(I.vot b v w (mem_Vs.mp hv).2).2.1
end M
namespace P
open M (Let)
structure As where
 ballot:Option Int
 fresh:Int
 noted:List (Nat×Option (Int×Int))
 asked:List (Int×List Nat)
structure R where
 wishes:List Int
 many:Nat
 letters:List Let
 askers:Nat->As
 voters:Nat->M.Voter
noncomputable def R.setA(S:R)(i:Nat)(a:As):R:={ S with askers:=M.upd S.askers i a }
noncomputable def R.setV(S:R)(i:Nat)(a:M.Voter):R:={ S with voters:=M.upd S.voters i a }
noncomputable def R.write(S:R)(x:Let):R:={ S with letters:=M.write S.letters x }
noncomputable def mx(i j:Int):Int:=if j > i then j else i
theorem mx_eq(i j:Int):mx i j=max i j:=by unfold mx; lia
noncomputable def ownB(number n least:Int):Int:=mx least number+(number - mx least number) % n
noncomputable def As.due(a:As)(i n:Nat)(least:Int):Int:=ownB i n (mx least a.fresh)
noncomputable def As.begin(a:As)(i n:Nat)(least:Int):As:={ a with ballot:=some (a.due i n least),fresh:=a.due i n least+1,noted:=[] }
noncomputable def R.begin(S:R)(i:Nat)(least:Int):R :=
 (S.setA i ((S.askers i).begin i S.wishes.length least)).write (.prepare ((S.askers i).due i S.wishes.length least))
noncomputable def R.fall(S:R)(i:Nat):R:=S.setA i { S.askers i with ballot:=none }
noncomputable def putL{κ α:Type} [DecidableEq κ](l:List (κ×α))(k:κ)(x:α):List (κ×α) :=
 if (l.any λkv=>decide (kv.1=k))=true then l.map (λkv=>if kv.1=k then (kv.1,x)else kv)else l++[(k,x)]
noncomputable def getL{κ α:Type} [DecidableEq κ](l:List (κ×α))(k:κ):Option α:=(l.find? λkv=>decide (kv.1=k)).map (·.2)
theorem ziQ{κ α:Type} [DecidableEq κ]{k:κ}{x:α}:∀ {l:List (κ×α)},k∉l.map (·.1)->l.map (λkv=>if kv.1=k then (kv.1,x)else kv)=l
 | [],_=>rfl
 | (j,y)::r,h=>by
  simp only[List.map_cons,List.mem_cons,not_or]at h
  rw[List.map_cons,ziQ h.2,if_neg (λe=>h.1 e.symm)]
theorem zju{α:Type}{k:Nat}{x:α}:∀ {l:List (Nat×α)},(l.map (·.1)).Nodup->putL l k x=M.put k x l
 | [],_=>by simp[putL,M.put]
 | (j,y)::r,h=>by
  simp only[List.map_cons,List.nodup_cons]at h
  have ih:=zju (k:=k) (x:=x) h.2
  unfold M.put
  unfold putL at ih ⊢
  by_cases e:j=k
  ·subst e
   rw[if_pos rfl,if_pos (by simp)]
   rw[List.map_cons,if_pos rfl,ziQ h.1]
  ·rw[if_neg e,<- ih]
   simp only[List.any_cons,e,decide_false,Bool.false_or]
   split
   ·rw[List.map_cons,if_neg e]
   ·rfl
theorem zer{κ α:Type} [DecidableEq κ]{l:List (κ×α)}{k:κ}:getL l k=none↔k∉l.map (·.1):=by
 unfold getL
 simp only[Option.map_eq_none_iff,List.find?_eq_none,decide_eq_true_eq,List.mem_map,not_exists,not_and]
theorem zhp{κ α:Type} [DecidableEq κ]{l:List (κ×α)}{k j:κ}{x:α}(h:k∉l.map (·.1)):getL (l++[(k,x)]) j=if j=k then some x else getL l j:=by
 unfold getL
 rw[List.find?_append]
 by_cases e:j=k
 ·subst e
  have:l.find? (λkv=>decide (kv.1=j))=none:=by
   have:=zer.mpr h
   unfold getL at this
   simpa using this
  rw[this]; simp
 ·rw[if_neg e]
  have:([(k,x)]:List (κ×α)).find? (λkv=>decide (kv.1=j))=none:=by simp; exact λz=>e z.symm
  rw[this]; simp
theorem zfk{κ α:Type} [DecidableEq κ]{l:List (κ×α)}{k:κ}{x:α}(h:k∉l.map (·.1)):putL l k x=l++[(k,x)]:=by
 unfold putL
 rw[if_neg]
 intro z
 simp only[List.any_eq_true,decide_eq_true_eq]at z
 obtain⟨kv,h1,h2⟩:=z
 exact h (h2 ▸ List.mem_map_of_mem h1)
noncomputable def ltP(a b:Int×Int):Bool:=decide (a.1 < b.1∨(a.1=b.1/\a.2 < b.2))
noncomputable def maxP:List (Int×Int)->Int×Int
 | []=>(0,0)
 | q::r=>r.foldl (λacc q=>if ltP acc q then q else acc) q
noncomputable def lasts(l:List (Nat×Option (Int×Int))):List (Int×Int):=l.filterMap (·.2)
noncomputable def wishToAsk(w:Int)(l:List (Nat×Option (Int×Int))):Int:=if (lasts l).length=0 then w else (maxP (lasts l)).2
noncomputable def sortN(l:List Nat):List Nat:=l.mergeSort λa b=>decide (a<=b)
noncomputable def R.note(S:R)(b:Int)(v:Nat)(l:Option (Int×Int)):R :=
 let i:=M.own S.wishes.length b
 let a:=S.askers i
 if a.ballot=some b/\getL a.asked b=none then
  let nt:=putL a.noted v l
  if 2 * nt.length > S.many then
   (S.setA i { a with noted:=nt,asked:=putL a.asked b (sortN (nt.map (·.1))) }).write (.ask b (wishToAsk (S.wishes.getD i 0) nt))
  else S.setA i { a with noted:=nt }
 else S
noncomputable def R.hear(S:R)(x:Let)(v:Nat):R:=match x with
 | .prepare b=>if M.lt? (S.voters v).promised b then (S.setV v ⟨some b,(S.voters v).voted⟩).write (.promise b v (S.voters v).voted)else S
 | .ask b w=>if M.le? (S.voters v).promised b then (S.setV v ⟨some b,some (b,w)⟩).write (.vote b v w)else S
 | .promise b u l=>S.note b u l
 | .vote _ _ _=>S
noncomputable def R.bring(S:R)(k v:Nat):R:=match S.letters[k]? with
 | some x=>S.hear x v
 | none=>S
noncomputable def R.backers(S:R)(b:Int):Option (List Nat):=(List.range S.wishes.length).findSome? λi=>getL (S.askers i).asked b
noncomputable def new(wishes:List Int)(many:Nat):R:=⟨wishes,many,[],λ_=>⟨none,0,[],[]⟩,λ_=>⟨none,none⟩⟩
structure Sim(S:R)(D:M.St):Prop where
 w:S.wishes=D.wishes
 m:S.many=D.many
 l:S.letters=D.letters
 v:S.voters=D.voters
 bl:∀ i,(S.askers i).ballot=(D.askers i).ballot
 fr:∀ i,(S.askers i).fresh=match (D.askers i).last with | none=>0 | some x=>x+1
 nt:∀ i,(S.askers i).noted=(D.askers i).noted
 ak:∀ i b,getL (S.askers i).asked b=if M.own S.wishes.length b=i then D.backers b else none
 av:∀ i b,(S.askers i).ballot=some b->((D.askers i).asked=true↔(getL (S.askers i).asked b).isSome=true)
theorem Sim.new{wishes:List Int}{many:Nat}:Sim (P.new wishes many) (M.new wishes many):=by
 constructor<;>simp[P.new,M.new,getL]
 intro i b; by_cases c:M.own wishes.length b=i<;>simp[c]
theorem sim_fall{S:R}{D:M.St}(h:Sim S D)(i:Nat):Sim (S.fall i) (D.fall i):=by
 obtain⟨w,m,l,v,bl,fr,nt,ak,av⟩:=h
 refine⟨w,m,l,v,λj=>?_,λj=>?_,λj=>?_,λj b=>?_,λj b hb=>?_⟩
 all_goals simp only[R.fall,R.setA,M.St.fall,M.upd]at *
 ·split<;>simp[bl]
 ·split
  ·rename_i e; subst e; simp[fr]
  ·exact fr j
 ·split<;>simp[nt]
 ·split
  ·rename_i e; subst e; exact ak j b
  ·exact ak j b
 ·split at hb
  ·cases hb
  ·rename_i e; simp only[if_neg e]; exact av j b hb
theorem due_eq{S:R}{D:M.St}(h:Sim S D)(I:M.Inv D){i:Nat}{least:Int}(hi:i < D.wishes.length)(hl:0<=least):(S.askers i).due i S.wishes.length least=D.due i least:=by
 have hlow:mx least (S.askers i).fresh=D.low i least:=by
  rw[mx_eq,h.fr i]
  unfold M.St.low
  cases (D.askers i).last with
  | none=>simp only; lia
  | some l=>rfl
 have h0:0<=D.low i least:=by rw[<- hlow,mx_eq]; lia
 unfold As.due ownB M.St.due
 rw[hlow,mx_eq,h.w]
 by_cases c:D.low i least<=i
 ·rw[Int.max_eq_right c,Int.sub_self,Int.zero_emod,Int.emod_eq_of_lt (by lia) (by lia)]
  lia
 ·rw[Int.max_eq_left (by lia)]
theorem sim_begin{S:R}{D:M.St}(h:Sim S D)(I:M.Inv D){i:Nat}{least:Int}(hi:i < D.wishes.length)(hl:0<=least):Sim (S.begin i least) (D.begin i least):=by
 have hd:=due_eq h I hi hl
 obtain⟨w,m,l,v,bl,fr,nt,ak,av⟩:=h
 have hge:=M.due_ge D i least I.n0
 have hlow:∀ x,(D.askers i).last=some x->x < D.low i least:=by
  intro x e; unfold M.St.low; rw[e]; simp only; lia
 refine⟨w,m,?_,v,λj=>?_,λj=>?_,λj=>?_,λj b=>?_,λj b hb=>?_⟩
 all_goals simp only[R.begin,R.setA,R.write,As.begin,M.St.begin,M.upd]at *
 ·rw[hd,l]
 ·split<;>simp[bl,hd]
 ·split
  ·simp[hd]
  ·exact fr j
 ·split<;>simp[nt]
 ·split
  ·rename_i e; subst e; exact ak j b
  ·exact ak j b
 ·split at hb
  ·rename_i e; subst e
   simp only[if_pos]at *
   simp only[Option.some.injEq]at hb
   rw[hd]at hb
   rw[ak j b]
   have:D.backers b=none:=by
    cases e:D.backers b with
    | none=>rfl
    | some vs =>
     obtain⟨⟨w',hw⟩,_⟩:=I.back b vs e
     obtain⟨hp,_⟩:=I.askP b w' hw
     obtain⟨_,x,hx,hle⟩:=I.prep b hp
     rw[<- hb,M.due_own D least hi]at hx
     have:=hlow x hx
     lia
   rw[this]; simp
  ·rename_i e; simp only[if_neg e]; exact av j b hb
theorem ltP_total{a b:Int×Int}:ltP a b=false↔(b.1 < a.1∨(a.1=b.1/\b.2<=a.2)):=by
 unfold ltP; rw[decide_eq_false_iff_not]; lia
theorem zhj:∀ (l:List (Int×Int)) (a:Int×Int),(l.foldl (λacc q=>if ltP acc q then q else acc) a=a∨l.foldl (λacc q=>if ltP acc q then q else acc) a∈l) /\
  ∀ c,(c=a∨c∈l)->c.1<=(l.foldl (λacc q=>if ltP acc q then q else acc) a).1
 | [],a=>by simp
 | q::r,a=>by
  rw[List.foldl_cons]
  have ih:=zhj r (if ltP a q then q else a)
  cases e:ltP a q with
  | true =>
   rw[e]at ih
   simp only[if_true]at ih ⊢
   unfold ltP at e
   simp only[decide_eq_true_eq]at e
   have h3:=ih.2 q (.inl rfl)
   refine⟨?_,?_⟩
   ·rcases ih.1 with h | h
    ·exact .inr (by rw[h]; exact List.mem_cons_self)
    ·exact .inr (lMc _ h)
   ·rintro c (h | h)
    ·subst h; lia
    ·rcases List.mem_cons.mp h with h | h
     ·subst h; exact h3
     ·exact ih.2 c (.inr h)
  | false =>
   rw[e]at ih
   simp only[Bool.false_eq_true,if_false]at ih ⊢
   rw[ltP_total]at e
   have h3:=ih.2 a (.inl rfl)
   refine⟨?_,?_⟩
   ·rcases ih.1 with h | h
    ·exact .inl h
    ·exact .inr (lMc _ h)
   ·rintro c (h | h)
    ·subst h; exact h3
    ·rcases List.mem_cons.mp h with h | h
     ·subst h; lia
     ·exact ih.2 c (.inr h)
theorem maxP_mem{l:List (Int×Int)}(h:l≠[]):maxP l∈l:=by
 cases l with
 | nil=>exact absurd rfl h
 | cons q r =>
  rcases (zhj r q).1 with e | e
  ·show r.foldl _ q∈_; rw[e]; exact List.mem_cons_self
  ·exact lMc _ e
theorem maxP_ge{l:List (Int×Int)}{c:Int×Int}(h:c∈l):c.1<=(maxP l).1:=by
 cases l with
 | nil=>cases h
 | cons q r=>exact(zhj r q).2 c (List.mem_cons.mp h)
theorem zfE{l:List (Nat×Option (Int×Int))}{q:Int×Int}:q∈lasts l↔∃ v,(v,some q)∈l:=by
 unfold lasts
 rw[List.mem_filterMap]
 constructor
 ·rintro⟨⟨v,o⟩,h,e⟩; simp only at e; subst e; exact⟨v,h⟩
 ·rintro⟨v,h⟩; exact⟨_,h,rfl⟩
theorem wish_eq{l:List (Nat×Option (Int×Int))}{w:Int}(u:∀ v v' c x x',(v,some (c,x))∈l->(v',some (c,x'))∈l->x=x') :
  wishToAsk w l=match M.best l with | some q=>q.2 | none=>w:=by
 unfold wishToAsk
 cases e:M.best l with
 | none =>
  have:lasts l=[]:=by
   cases e2:lasts l with
   | nil=>rfl
   | cons q r =>
    obtain⟨v,hv⟩:=zfE.mp (show q∈lasts l by rw[e2]; exact List.mem_cons_self)
    exact absurd hv (M.best_none e v q)
  rw[this]; rfl
 | some q =>
  obtain⟨v,hv⟩:=M.best_mem e
  have hq:q∈lasts l:=zfE.mpr ⟨v,hv⟩
  have hne:lasts l≠[]:=by intro z; rw[z]at hq; cases hq
  rw[if_neg (by rw[List.length_eq_zero_iff]; exact hne)]
  have h1:=maxP_ge hq
  obtain⟨v',hv'⟩:=zfE.mp (maxP_mem hne)
  have h2:=M.best_ge e hv'
  have h3:(maxP (lasts l)).1=q.1:=by lia
  exact u v' v q.1 _ _ (by rw[<- h3]; exact hv') hv
theorem sortN_keys{m:Nat}{l:List (Nat×Option (Int×Int))}(nd:(l.map (·.1)).Nodup)(h:∀ v x,(v,x)∈l->v < m):sortN (l.map (·.1))=M.keysOf m l:=by
 have hp:(sortN (l.map (·.1))).Perm (l.map (·.1)):=List.mergeSort_perm _ _
 have hs:(sortN (l.map (·.1))).Pairwise λa b=>a<=b:=by
  have:=List.pairwise_mergeSort (le:=λa b:Nat=>decide (a<=b)) (λa b c=>by simp; lia) (λa b=>by simp; lia) (l.map (·.1))
  exact this.imp λh=>by simpa using h
 have hk:(M.keysOf m l).Perm (l.map (·.1)):=by
  rw[List.perm_ext_iff_of_nodup (M.sorted_nodup (M.keysOf_sorted m l)) nd]
  intro v
  rw[M.mem_keysOf]
  constructor
  ·exact λh=>h.2
  ·intro hv
   refine⟨?_,hv⟩
   obtain⟨⟨v',x⟩,h1,h2⟩:=List.mem_map.mp hv
   simp only at h2; subst h2
   exact h v' x h1
 exact(hp.trans hk.symm).eq_of_pairwise (le:=λa b=>a<=b) (λa b _ _ h1 h2=>by lia) hs ((M.keysOf_sorted m l).imp λh=>Nat.le_of_lt h)
theorem own_lt{n:Nat}{b:Int}(h:0 < n):M.own n b < n:=by
 unfold M.own
 have h1:=Int.emod_nonneg b (b:=(n:Int)) (by lia)
 have h2:=Int.emod_lt_of_pos b (b:=(n:Int)) (by lia)
 lia
theorem sim_note{S:R}{D:M.St}(h:Sim S D)(I:M.Inv D){b:Int}{v:Nat}{l:Option (Int×Int)}(hm:.promise b v l∈D.letters):Sim (S.note b v l) (D.note b v l):=by
 have hs:=h
 obtain⟨w,m,le,vo,bl,fr,nt,ak,av⟩:=h
 have ev:(S.askers (M.own S.wishes.length b)).ballot=some b/\getL (S.askers (M.own S.wishes.length b)).asked b=none↔(D.askers (M.own D.wishes.length b)).ballot=some b/\(D.askers (M.own D.wishes.length b)).asked=false:=by
  rw[w]at ak ⊢
  rw[bl]
  constructor
  ·rintro⟨h1,h2⟩
   refine⟨h1,?_⟩
   have:=av _ b (by rw[bl]; exact h1)
   rw[h2]at this
   simpa using this
  ·rintro⟨h1,h2⟩
   refine⟨h1,?_⟩
   have:=av _ b (by rw[bl]; exact h1)
   rw[h2]at this
   simpa using this
 unfold R.note M.St.note
 simp only
 by_cases c:(D.askers (M.own D.wishes.length b)).ballot=some b/\(D.askers (M.own D.wishes.length b)).asked=false
 ·rw[if_pos (ev.mpr c),if_pos c]
  have hnd:=I.notedU (M.own D.wishes.length b)
  have eput:putL (S.askers (M.own S.wishes.length b)).noted v l=M.put v l (D.askers (M.own D.wishes.length b)).noted:=by
   rw[w,nt]; exact zju hnd
  have hpr:∀ u x,(u,x)∈M.put v l (D.askers (M.own D.wishes.length b)).noted->.promise b u x∈D.letters:=by
   intro u x hu
   rcases M.mem_put hu with e | e
   ·cases e; exact hm
   ·exact I.noted _ b u x c.1 e
  rw[eput,m]
  by_cases c2:D.many < 2 * (M.put v l (D.askers (M.own D.wishes.length b)).noted).length
  ·rw[if_pos c2,if_pos c2]
   have hb:D.backers b=none:=by
    have:=(ev.mpr c).2
    rw[ak,if_pos rfl]at this
    exact this
   have hgn:b∉((S.askers (M.own S.wishes.length b)).asked).map (·.1):=zer.mp (ev.mpr c).2
   have esort:sortN ((M.put v l (D.askers (M.own D.wishes.length b)).noted).map (·.1))=M.keysOf D.many (M.put v l (D.askers (M.own D.wishes.length b)).noted) :=
    sortN_keys (M.put_nodup hnd) λu x hu=>(I.prom b u x (hpr u x hu)).1
   have ewish:wishToAsk (S.wishes.getD (M.own S.wishes.length b) 0) (M.put v l (D.askers (M.own D.wishes.length b)).noted)=D.wishOf b (M.put v l (D.askers (M.own D.wishes.length b)).noted):=by
    rw[wish_eq,w]
    ·rfl
    ·intro u u' c x x' h1 h2
     have a1:=(I.last1 b u c x (hpr u _ h1)).2
     have a2:=(I.last1 b u' c x' (hpr u' _ h2)).2
     exact I.askU c x x' (I.vot c u x a1).2.1 (I.vot c u' x' a2).2.1
   rw[esort,ewish]
   refine⟨w,m,?_,vo,λj=>?_,λj=>?_,λj=>?_,λj b'=>?_,λj b' hb'=>?_⟩
   all_goals simp only[R.setA,R.write,M.upd]at *
   ·rw[le]
   ·rw[w]; split<;>simp[bl]
   ·rw[w]; split
    ·rename_i e; subst e; simp[fr]
    ·exact fr j
   ·rw[w]; split<;>simp[nt]
   ·split
    ·rename_i e; subst e
     rw[zfk hgn,zhp hgn,ak]
     by_cases e:b'=b
     ·subst e; simp
     ·simp[e]
    ·rename_i e
     rw[ak]
     by_cases e2:b'=b
     ·subst e2
      have e':¬ M.own S.wishes.length b'=j:=λz=>e z.symm
      simp[e']
     ·simp[e2]
   ·rw[w]at hb' ⊢
    split at hb'
    ·rename_i e; subst e
     simp only[if_pos]at *
     rw[bl,c.1]at hb'
     cases hb'
     rw[w]at hgn
     rw[zfk hgn,zhp hgn]
     simp
    ·rename_i e; simp only[if_neg e]; exact av j b' hb'
  ·rw[if_neg c2,if_neg c2]
   refine⟨w,m,le,vo,λj=>?_,λj=>?_,λj=>?_,λj b'=>?_,λj b' hb'=>?_⟩
   all_goals simp only[R.setA,M.upd]at *
   ·rw[w]; split<;>simp[bl]
   ·rw[w]; split
    ·rename_i e; subst e; simp[fr]
    ·exact fr j
   ·rw[w]; split<;>simp[nt]
   ·split
    ·rename_i e; subst e; exact ak _ b'
    ·exact ak _ b'
   ·rw[w]at hb' ⊢
    split at hb'
    ·rename_i e; subst e; simp only[if_pos]at *; exact av _ b' hb'
    ·rename_i e; simp only[if_neg e]; exact av j b' hb'
 ·rw[if_neg (λz=>c (ev.mp z)),if_neg c]
  exact hs
theorem sim_hear{S:R}{D:M.St}(h:Sim S D)(I:M.Inv D){x:Let}(hx:x∈D.letters)(v:Nat):Sim (S.hear x v) (D.hear x v):=by
 cases x with
 | promise b u l=>exact sim_note h I hx
 | vote b u w=>exact h
 | prepare b =>
  simp only[R.hear,M.St.hear]
  rw[h.v]
  split
  ·exact⟨h.w,h.m,by simp only[R.write,R.setV]; rw[h.l],by simp only[R.write,R.setV]; rw[h.v],h.bl,h.fr,h.nt,h.ak,h.av⟩
  ·exact h
 | ask b w =>
  simp only[R.hear,M.St.hear]
  rw[h.v]
  split
  ·exact⟨h.w,h.m,by simp only[R.write,R.setV]; rw[h.l],by simp only[R.write,R.setV]; rw[h.v],h.bl,h.fr,h.nt,h.ak,h.av⟩
  ·exact h
theorem sim_bring{S:R}{D:M.St}(h:Sim S D)(I:M.Inv D)(k v:Nat):Sim (S.bring k v) (D.bring k v):=by
 unfold R.bring M.St.bring
 rw[h.l]
 cases e:D.letters[k]? with
 | some x=>exact sim_hear h I (List.mem_of_getElem? e) v
 | none=>exact h
noncomputable def zjf(S:R):Prop:=∃ D,Sim S D/\M.Inv D
theorem zjf.new{wishes:List Int}{many:Nat}(h:0 < wishes.length):zjf (new wishes many):=⟨_,Sim.new,M.Inv.new h⟩
theorem zjf.n0{S:R}(g:zjf S):0 < S.wishes.length:=by obtain⟨D,s,I⟩:=g; rw[s.w]; exact I.n0
theorem zjf.begin{S:R}(g:zjf S){i:Nat}{least:Int}(hi:i < S.wishes.length)(hl:0<=least):zjf (S.begin i least):=by
 obtain⟨D,s,I⟩:=g
 rw[s.w]at hi
 exact⟨_,sim_begin s I hi hl,I.begin hi hl⟩
theorem zjf.fall{S:R}(g:zjf S)(i:Nat):zjf (S.fall i):=by
 obtain⟨D,s,I⟩:=g
 exact⟨_,sim_fall s i,I.fall i⟩
theorem zjf.bring{S:R}(g:zjf S)(k:Nat){v:Nat}(hv:v < S.many):zjf (S.bring k v):=by
 obtain⟨D,s,I⟩:=g
 rw[s.m]at hv
 exact⟨_,sim_bring s I k v,I.bring k hv⟩
structure Lite(S:R):Prop where
 n0:0 < S.wishes.length
 f0:∀ i,0<=(S.askers i).fresh
 pr:∀ b,M.Let.prepare b∈S.letters->∃ i,i < S.wishes.length/\b % (S.wishes.length:Int)=i/\b < (S.askers i).fresh
end P
namespace L2
open PySem PySem.Spec PyProof.Rows
noncomputable def zcv(h₀ h:Heap):Prop:=∀ b o,h₀.get? b=some o->h.get? b=some o
noncomputable def CmpIn(prog:Program)(w:World)(A:Around)(op:CmpOp)(h₀:Heap)(P:Nat->Value->Prop)(bt:Nat->Nat->Bool):Prop :=
 ∀ (i j:Nat) (u v:Value) (s:Shared) (Q E:Value->Shared->Prop),zcv h₀ s.heap->P i u->P j v->Q (.bool (bt i j)) s->wpAny (model prog w) A (richCompare op u v) Q E s
section
variable {prog:Program}{w:World}{A:Around}{E:Value->Shared->Prop}{s:Shared}
theorem gt_pair{x y:Addr}{a b c d:Int}{t u t' u':Tok}{Q:Value->Shared->Prop}(hu:A.units < cLine)(hx:s.heap.IsTuple x #[.int a t,.int b u])(hy:s.heap.IsTuple y #[.int c t',.int d u'])
  (q:Q (.bool (P.ltP (c,d) (a,b))) s):wpAny (model prog w) A (richCompare .Gt (.ref x) (.ref y)) Q E s:=by
 obtain⟨ox,x1,x2,nx,x3⟩:=hx
 obtain⟨oy,y1,y2,ny,y3⟩:=hy
 have tx:s.TypeIs (.ref x) "tuple":=⟨ox,x1,x2⟩
 have ty:s.TypeIs (.ref y) "tuple":=⟨oy,y1,y2⟩
 refine wpAny_richCompare_same_room tx ty F.slot_tuple_gt (wpAny_call_entry F.slot_tuple_gt tx F.entry_tuple_gt ?_ (F.args_tuple_gt_2 _ _)) hu
 change wpAny _ _ (isInstance (.ref y) (.type "tuple") >>= λ_=>_) _ _ s
 refine wB (wpAny_isInstance ty isSubtype_tuple_tuple ?_)
 simp only[Bool.not_true,Bool.false_eq_true,if_false]
 refine wB (wpAny_tupleItemsOf x1 x3 (wB (wpAny_tupleItemsOf y1 y3 ?_)))
 simp only[List.zip_cons_cons,List.zip_nil_right,List.forIn_cons,List.forIn_nil]
 refine wB (wB (wB (wpAny_eqBool_int ?_)))
 have gi:∀ (i j:Int) (v v':Tok) (A':Around) (Q':Value->Shared->Prop),Q' (.bool (decide (i > j))) s->wpAny (model prog w) A' (richCompare .Gt (.int i v) (.int j v')) Q' E s:=λi j v v' A' Q' h =>
  richCompare_gives (op:=.Gt) (typeIs_int s _ v) (typeIs_int s _ v') F.slot_int_gt F.entry_int_gt (F.args_int_gt_2 _ _) (gives_int_gt _ _ v v') (λx=>nomatch x) h
 by_cases e:a=c
 ·subst e
  simp only[BEq.rfl,Bool.not_true,Bool.false_eq_true,if_false]
  refine wQ (wB (wB (wpAny_eqBool_int ?_)))
  by_cases e:b=d
  ·subst e
   simp only[BEq.rfl,Bool.not_true,Bool.false_eq_true,if_false]
   refine wQ (wQ ?_)
   have z:P.ltP (a,b) (a,b)=false:=by simp[P.ltP]
   rw[z]at q
   exact wQ ⟨.bool false,rfl,(λx=>nomatch x),q⟩
  ·have e':(b==d)=false:=by simpa using e
   simp only[e',Bool.not_false,if_true]
   refine wB (wpAny_rule (wB (gi b d _ _ _ _ ?_)))
   have z:P.ltP (a,d) (a,b)=decide (b > d):=by simp[P.ltP]
   rw[z]at q
   exact wB (wQ (wQ (wQ (wQ ⟨_,rfl,(λx=>nomatch x),q⟩))))
 ·have e':(a==c)=false:=by simpa using e
  simp only[e',Bool.not_false,if_true]
  refine wB (wpAny_rule (wB (gi a c _ _ _ _ ?_)))
  have z:P.ltP (c,d) (a,b)=decide (a > c):=by simp[P.ltP]; intro h; lia
  rw[z]at q
  exact wB (wQ (wQ (wQ (wQ ⟨_,rfl,(λx=>nomatch x),q⟩))))
end
section
variable {prog:Program}{w:World}{A:Around}{R:Result->Shared->Prop}{I:Addr}{fp wr:List Addr}{n:Nat}{P:Nat->Value->Prop}{St:Nat->Heap->Prop}
noncomputable abbrev two(best:Value)(c:Nat):Obj:={ cls:=.type "list",dict:=none,data:=.seq #[best,best] c,slots:=#[] }
theorem mx_loop{bt:Nat->Nat->Bool}{h₀:Heap}{S:Addr}(W:Walks prog w A.in1 I fp wr n P St)(cmp:CmpIn prog w A.in1 .Gt h₀ P bt)(nS:S∉fp)(w0:∀ b∈wr,h₀.get? b=none)(s0:h₀.get? S=none) :
  ∀ (k j:Nat) (s:Shared) (best:Value) (c:Nat),n - (j+1)=k->j+1<=n->St (j+1) s.heap->zcv h₀ s.heap->P (argBest bt j) best->s.heap.get? S=some (two best c) ->
   (∀ v g tk,P (argBest bt (n - 1)) v->zcv h₀ g->R (.ok (.ret v)) { s with heap:=g,toks:=tk })->codeAny (model prog w) A (.builtin "max.loop" ⟨[.ref I,.none,.ref S],[]⟩) R s:=by
 have nw:S∉wr:=λh=>nS (W.sub _ h)
 have nm:(toString "max"++toString ".loop":String)="max.loop":=by decide
 have stay:∀ {h g:Heap},zcv h₀ h->(∀ b o,b∉wr->h.get? b=some o->g.get? b=some o)->zcv h₀ g:=λ{h g} kp kk b o e=>kk b o (λz=>by rw[w0 b z]at e; cases e) (kp b o e)
 have stay2:∀ {h:Heap} {f:Obj->Obj},zcv h₀ h->zcv h₀ (h.update S f):=λ{h f} kp b o e=>(Heap.get?_update_other _ _ (λz:S=b=>by rw[<- z,s0]at e; cases e)).trans (kp b o e)
 intro k
 induction k with
 | zero =>
  intro j s best c hk hj hst kp pb hS hR
  have e:j+1=n:=by lia
  refine codeAny_builtin F.entry_max_loop ?_
  rw[Around.under_plainId F.plain_max_loop _]
  change wpAny _ A.in1 (seqItems? (.ref S) >>= λ_=>_) _ _ s
  refine wB (wpAny_seqItems hS rfl ?_)
  change wpAny _ A.in1 (tryCatch (pyNext (.ref I)) _ >>= λ_=>_) _ _ s
  refine wB (wpAny_tryCatch (W.done s _ _ (e ▸ hst) λg tk kk=>?_))
  change wpAny _ A.in1 (updateSeq S (λ_=>#[]) >>= λ_=>_) _ _ _
  exact wpAny_bind (wpAny_updateSeq (kk S _ nw hS) rfl (wpAny_bind (wpAny_letGo (wpAny_pure (hR best _ tk (by rw[<- e]; exact pb) (stay2 (stay kp kk)))))))
 | succ k ih =>
  intro j s best c hk hj hst kp pb hS hR
  have lt:j+1 < n:=by lia
  refine codeAny_builtin F.entry_max_loop ?_
  rw[Around.under_plainId F.plain_max_loop _]
  change wpAny _ A.in1 (seqItems? (.ref S) >>= λ_=>_) _ _ s
  refine wB (wpAny_seqItems hS rfl ?_)
  change wpAny _ A.in1 (tryCatch (pyNext (.ref I)) _ >>= λ_=>_) _ _ s
  refine wB (wpAny_tryCatch (W.item (j+1) s _ _ lt hst λv g tk pv st' kk=>?_))
  have hS':=kk S _ nw hS
  change wpAny _ A.in1 (tryCatch (holding [v,v] (richCompare .Gt v best >>= λ_=>_)) _ >>= λ_=>_) _ _ _
  refine wB (wpAny_tryCatch (wpAny_holding (wB (cmp (j+1) (argBest bt j) v best _ _ _ (stay kp kk) pv pb (wB (wpAny_holding (wpAny_truthy_bool ?_)))))))
  refine wB (wpAny_letGo (wQ ?_))
  cases hb:bt (j+1) (argBest bt j)with
  | true =>
   rw[if_pos rfl]
   refine wB (wpAny_updateSeq hS' rfl (wB (wpAny_letGo ?_)))
   rw[nm]
   exact wpAny_pure ⟨plainId_quiet F.plain_max_loop _,ih (j+1) _ v _ (by lia) lt (W.frame _ _ _ st' λb hf o e=>(Heap.get?_update_other _ _ (λz:S=b=>nS (by rw[z]; exact hf))).trans e) (stay2 (stay kp kk))
    (by simp only[argBest,hb,if_true]; exact pv) (Heap.get?_update_self _ hS' rfl) λv' g' tk' p' k'=>hR v' g' tk' p' k'⟩
  | false =>
   rw[if_neg Bool.false_ne_true]
   refine wB (wpAny_letGo ?_)
   rw[nm]
   exact wpAny_pure ⟨plainId_quiet F.plain_max_loop _,ih (j+1) _ best c (by lia) lt st' (stay kp kk) (by simp only[argBest,hb,Bool.false_eq_true,if_false]; exact pb) hS' λv' g' tk' p' k'=>hR v' g' tk' p' k'⟩
end
section
variable {prog:Program}{w:World}{A:Around}{E:Value->Shared->Prop}{s:Shared}
theorem max_of{l:Addr}{items:Array Value}{bt:Nat->Nat->Bool}{Q:Value->Shared->Prop}(hh:A.handled=none)(hl:s.heap.IsList l items)(n0:0 < items.size)(cmp:CmpIn prog w A.in1 .Gt s.heap (λi v=>items[i]?=some v) bt)
  (q:∀ v g tk,items[argBest bt (items.size - 1)]?=some v->zcv s.heap g->Q v { s with heap:=g,toks:=tk }):wpAny (model prog w) A (call (.builtin "max") [.ref l]) Q E s:=by
 have nm:(toString "max"++toString ".loop":String)="max.loop":=by decide
 have ll:l < s.heap.objs.size:=let ⟨_,e,_⟩:=hl; hLz e
 have W:=Walks.list (prog:=prog) (w:=w) (A:=A.in1) hh s.heap.objs.size l (nNl ll) items
 refine call_function_tree F.kind_max F.plain_max F.entry_max (F.args_max1 _) ?_
 change wpAny _ A.in1 (Builtin.Builtins.bindParams "max" ["key","default"] 0 ⟨[],[]⟩ >>= λ_=>_) _ _ s
 refine wB (wpAny_of_eq (a:=[none,none]) rfl (wB (wQ (wB (wpAny_pyIter_list hl (wB (wpAny_newObj_type ?_)))))))
 rw[nm]
 have k1:zcv s.heap (s.heap.push { cls:=.type "list_iterator",data:=.fields #[.ref l,.int 0 0] }):=λb o e=>Heap.get?_push_of_some _ e
 have z1:(s.heap.push { cls:=.type "list_iterator",data:=.fields #[.ref l,.int 0 0] }).objs.size=s.heap.objs.size+1:=Heap.size_push ..
 have nS:(s.heap.push { cls:=.type "list_iterator",data:=.fields #[.ref l,.int 0 0] }).objs.size∉[s.heap.objs.size,l]:=by
  rw[z1]; intro h
  rcases List.mem_cons.mp h with h | h
  ·exact Nat.succ_ne_self _ h
  ·exact Nat.ne_of_gt (Nat.lt_succ_of_lt ll) (List.mem_singleton.mp h)
 have w0:∀ b∈[s.heap.objs.size],s.heap.get? b=none:=λb hb=>by
  obtain rfl:=List.mem_singleton.mp hb
  cases e:s.heap.get? s.heap.objs.size with
  | none=>rfl
  | some o=>exact absurd (hLz e) (Nat.lt_irrefl _)
 have s0:s.heap.get? (s.heap.push { cls:=.type "list_iterator",data:=.fields #[.ref l,.int 0 0] }).objs.size=none:=by
  cases e:s.heap.get? (s.heap.push { cls:=.type "list_iterator",data:=.fields #[.ref l,.int 0 0] }).objs.size with
  | none=>rfl
  | some o=>have:=Heap.lt_size e; rw[z1]at this; exact absurd this (Nat.not_succ_lt_self)
 have nw:(s.heap.push { cls:=.type "list_iterator",data:=.fields #[.ref l,.int 0 0] }).objs.size∉[s.heap.objs.size]:=λh=>nS (W.sub _ h)
 refine wQ ⟨plainId_quiet F.plain_max_loop _,codeAny_builtin F.entry_max_loop ?_⟩
 rw[Around.under_plainId F.plain_max_loop _]
 change wpAny _ A.in1 (seqItems? (.ref _) >>= λ_=>_) _ _ _
 refine wB (wpAny_seqItems (hPz _ rfl) rfl ?_)
 change wpAny _ A.in1 (tryCatch (pyNext (.ref _)) _ >>= λ_=>_) _ _ _
 have st0:(λi (h:Heap)=>h.IsListIter s.heap.objs.size l i/\h.IsList l items) 0 ((s.heap.push { cls:=.type "list_iterator",data:=.fields #[.ref l,.int 0 0] }).push { cls:=.type "list",data:=.seq ([]:List Value).toArray }) :=
  ⟨⟨_,hPs _ (hPz _ rfl),rfl,rfl⟩,let ⟨o,e,r⟩:=hl; ⟨o,hPs _ (k1 l o e),r⟩⟩
 refine wB (wpAny_tryCatch (W.item 0 _ _ _ n0 st0 λv g tk pv st' kk=>?_))
 have hS':=kk _ _ nw (hPz _ rfl)
 change wpAny _ A.in1 (updateSeq _ (λ_=>#[v,v]) >>= λ_=>_) _ _ _
 refine wB (wpAny_updateSeq hS' rfl ?_)
 rw[nm]
 have kg:zcv s.heap g:=λb o e=>kk b o (λz=>by rw[w0 b z]at e; cases e) (Heap.get?_push_of_some _ (k1 b o e))
 refine wpAny_pure ⟨plainId_quiet F.plain_max_loop _,mx_loop W cmp nS w0 s0 _ 0 _ v _ rfl n0 (W.frame _ _ _ st' λb hf o e=>(Heap.get?_update_other _ _ (λz=>nS (by rw[z]; exact hf))).trans e) (λb o e=>(Heap.get?_update_other _ _ (λz=>by rw[z,e]at s0; cases s0)).trans (kg b o e)) pv (Heap.get?_update_self _ hS' rfl) λv' g' tk' p' k'=>q v' g' tk' p' k'⟩
end
theorem zdT{α β:Type}{F:α->β->Prop}:∀ {l:List α} {r:List β} {i:Nat} {x:α},Paired F l r->l[i]?=some x->∃ y,r[i]?=some y/\F x y
 | _,_,_,_,.nil,e=>by simp at e
 | _,_,0,_,.cons h _,e=>by simp at e; subst e; exact⟨_,rfl,h⟩
 | _,_,i+1,x,.cons _ t,e=>by
  obtain⟨y,h1,h2⟩:=zdT (i:=i) (x:=x) t (by simpa using e)
  exact⟨y,by simpa using h1,h2⟩
noncomputable def zdx{α:Type}(lt:α->α->Bool)(x:α)(r:List α):α:=r.foldl (λacc q=>if lt acc q then q else acc) x
theorem zcJ{α:Type}{lt:α->α->Bool}{d x:α}{r:List α}:∀ k,k<=r.length->argBest (λi j=>lt ((x::r).getD j d) ((x::r).getD i d)) k<=k/\(x::r)[argBest (λi j=>lt ((x::r).getD j d) ((x::r).getD i d)) k]?=some (zdx lt x (r.take k))
 | 0,_=>⟨Nat.le_refl _,by simp[argBest,zdx]⟩
 | k+1,h=>by
  obtain⟨h1,h2⟩:=zcJ (lt:=lt) (d:=d) (x:=x) (r:=r) k (by lia)
  have hk:k < r.length:=by lia
  have e1:r.take (k+1)=r.take k++[r[k]]:=by rw[List.take_succ_eq_append_getElem hk]
  have e2:(x::r).getD (k+1) d=r[k]:=by simp[hk]
  have e3:(x::r).getD (argBest (λi j=>lt ((x::r).getD j d) ((x::r).getD i d)) k) d=zdx lt x (r.take k):=by rw[List.getD_eq_getElem?_getD,h2]; rfl
  have e4:zdx lt x (r.take (k+1))=if lt (zdx lt x (r.take k)) r[k]then r[k]else zdx lt x (r.take k):=by unfold zdx; rw[e1,List.foldl_append]; rfl
  rw[e4]
  simp only[argBest,e2,e3]
  by_cases c:lt (zdx lt x (r.take k)) r[k]=true
  ·rw[if_pos c,if_pos c]
   exact⟨Nat.le_refl _,by simp[hk]⟩
  ·rw[if_neg c,if_neg c]
   exact⟨by lia,h2⟩
section
variable {X:Cx}
theorem call_maxP{k:Nat}(hr:Room k X.A)(hc:X.calm=true):zcV X (.builtin "max") (λxs H Q=>∃ p ys x r,xs=[.ref p]/\SqL X.K H p ys/\Paired (λ(y:V) (q:Int×Int)=>∃ a,y=.ref a/\SqT X.K H a [.int q.1,.int q.2]) ys (x::r)/\∀ (i:Nat) (y:V),ys[i]?=some y->(x::r)[i]?=some (zdx P.ltP x r)->Q y H):=by
 intro pins s σ H xs us Q I r h
 obtain⟨p,ys,x,qs,rfl,hq,ps,q⟩:=h
 obtain⟨u,rfl,ru⟩:∃ u,us=[u]/\zaK (.ref p) u:=by
  cases r with
  | cons a b=>cases b; exact⟨_,rfl,a⟩
 cases ru
 obtain⟨its,rv,pl,hz⟩:=I.list hq
 have hlen:its.length=(x::qs).length:=by rw[<- rv.length]; exact Paired.length ps
 have hun:X.A.in1.units < cLine:=by have:=hr.units; show X.A.units+1 < cLine; lia
 refine max_of (bt:=λi j=>P.ltP ((x::qs).getD j (0,0)) ((x::qs).getD i (0,0))) (I.ok.hd hc) pl.isList (by rw[List.size_toArray,hlen]; simp) ?_ ?_
 ·intro i j u v s' Q' E' kp hi hj h'
  have pr:∀ (i:Nat) (u:Value),its.toArray[i]?=some u->∃ a t t',u=.ref a/\s'.heap.IsTuple a #[.int ((x::qs).getD i (0,0)).1 t,.int ((x::qs).getD i (0,0)).2 t']:=by
   intro i u hi
   rw[List.getElem?_toArray]at hi
   obtain⟨hi1,hi2⟩:=List.getElem?_eq_some_iff.mp hi
   have hi3:i < ys.length:=by rw[rv.length]; exact hi1
   obtain⟨u',hu',ru'⟩:=rv.get (x:=ys[i]) (i:=i) (by simp[hi3])
   rw[hi]at hu'; cases hu'
   obtain⟨q',hq',a,ea,sa⟩:=zdT ps (x:=ys[i]) (i:=i) (by simp[hi3])
   rw[ea]at ru'; cases ru'
   obtain⟨its',rv',pt,_⟩:=I.tuple sa
   cases rv' with
   | cons r1 rr=>cases rr with
    | cons r2 rr =>
     cases rr; obtain⟨t,rfl⟩:=r1; obtain⟨t',rfl⟩:=r2
     refine⟨a,t,t',rfl,?_⟩
     rw[List.getD_eq_getElem?_getD,hq']
     obtain⟨o,e,rest⟩:=pt
     exact⟨o,kp _ _ e,rest⟩
  obtain⟨a,t,t',rfl,h1⟩:=pr i u hi
  obtain⟨b,t2,t3,rfl,h2⟩:=pr j v hj
  exact gt_pair hun h1 h2 h'
 ·intro v g tk hv kp
  have hb:=zcJ (lt:=P.ltP) (d:=(0,0)) (x:=x) (r:=qs) qs.length (nLr _)
  have esz:its.toArray.size - 1=qs.length:=by rw[List.size_toArray,hlen]; simp
  rw[esz,List.getElem?_toArray]at hv
  rw[List.take_length]at hb
  obtain⟨hi1,_⟩:=List.getElem?_eq_some_iff.mp hv
  have hi3:argBest (λi j=>P.ltP ((x::qs).getD j (0,0)) ((x::qs).getD i (0,0))) qs.length < ys.length:=by rw[rv.length]; exact hi1
  obtain⟨u',hu',ru'⟩:=rv.get (lGe hi3)
  rw[hv]at hu'; cases hu'
  exact⟨_,H,I.kept kp,ru',q _ _ (lGe hi3) hb.2⟩
theorem call_maxI(hc:X.calm=true):zcV X (.builtin "max") (λxs H Q=>∃ p x r,xs=[.ref p]/\SqL X.K H p ((x::r).map V.int)/\Q (.int (zdx (λa b=>decide (a < b)) x r)) H):=by
 intro pins s σ H xs us Q I r h
 obtain⟨p,x,qs,rfl,hq,q⟩:=h
 obtain⟨u,rfl,ru⟩:∃ u,us=[u]/\zaK (.ref p) u:=by
  cases r with
  | cons a b=>cases b; exact⟨_,rfl,a⟩
 cases ru
 obtain⟨its,rv,pl,hz⟩:=I.list hq
 have hlen:its.length=(x::qs).length:=by rw[<- rv.length]; simp
 have pr:∀ (i:Nat) (u:Value),its.toArray[i]?=some u->∃ t,u=Value.int ((x::qs).getD i 0) t:=by
  intro i u hi
  rw[List.getElem?_toArray]at hi
  obtain⟨hi1,hi2⟩:=List.getElem?_eq_some_iff.mp hi
  have hi3:i < (x::qs).length:=by rw[<- hlen]; exact hi1
  obtain⟨u',hu',ru'⟩:=rv.get (x:=V.int (x::qs)[i]) (i:=i) (by rw[List.getElem?_map,lGe hi3]; rfl)
  rw[hi]at hu'; cases hu'
  obtain⟨t,rfl⟩:=ru'
  exact⟨t,by rw[List.getD_eq_getElem?_getD,List.getElem?_eq_getElem hi3]; rfl⟩
 refine max_of (bt:=λi j=>decide ((x::qs).getD j 0 < (x::qs).getD i 0)) (I.ok.hd hc) pl.isList (by rw[List.size_toArray,hlen]; simp) ?_ ?_
 ·intro i j u v s' Q' E' kp hi hj h'
  exact CmpOf.ints_gt (P:=λi v=>its.toArray[i]?=some v) (λi=>(x::qs).getD i 0) pr i j u v s' Q' E' hi hj h'
 ·intro v g tk hv kp
  have hb:=zcJ (lt:=λa b:Int=>decide (a < b)) (d:=0) (x:=x) (r:=qs) qs.length (nLr _)
  have esz:its.toArray.size - 1=qs.length:=by rw[List.size_toArray,hlen]; simp
  rw[esz]at hv
  rw[List.take_length]at hb
  obtain⟨t,rfl⟩:=pr _ v hv
  refine⟨V.int _,H,I.kept kp,⟨t,rfl⟩,?_⟩
  rw[List.getD_eq_getElem?_getD,hb.2]
  exact q
end
end L2
namespace L3
open PySem PySem.Spec PyProof.Rows L2
section
variable {X:Cx}{e:Expr}{es:List Expr}{pos p:Pos}{t:TA3}{k:Nat}
noncomputable def pT(q:Int×Int):T:=.tup [.int q.1,.int q.2]
noncomputable def pairOf:T->Option (Int×Int)
 | .tup [.int a,.int b]=>some (a,b)
 | _=>none
theorem zeW{K:KW}{H:Hp}:∀ {vs:List V} {qs:List (Int×Int)},Dens K H vs (qs.map pT)->Paired (λ(y:V) (q:Int×Int)=>∃ a,y=.ref a/\SqT K.k H a [.int q.1,.int q.2]) vs qs
 | _,[],.nil=>.nil
 | _,q::r,.cons d ds=>by
  refine .cons ?_ (zeW ds)
  cases d with
  | tup sq dd =>
   cases dd with
   | cons d1 dd=>cases dd with
    | cons d2 dd=>cases dd; cases d1; cases d2; exact⟨_,rfl,sq⟩
noncomputable def mxL3:List T->Gp->VK3->Prop:=λts G Q=>match ts with
 | [.ref q]=>(match G q with
  | some (.lst us)=>(∃ x r,us=(x::r).map pT/\Q (pT (zdx P.ltP x r)) G)∨∃ x r,us=(x::r).map T.int/\Q (.int (zdx (λa b=>decide (a < b)) x r)) G
  | _=>False)
 | _=>False
theorem qmaxL(hr:Room k X.A)(hm:X.mg "max"=none) (ha:QA X [e] t) (hg:Gl X "max":=by rfl) (he:starEach [e] X.env=[(false,eval e X.env)]:=by rfl) (hpl:(backTo pos (starEach [] X.env)).any (·.1)=false:=by rfl) (hc:X.calm=true:=by rfl) :
  QE X (.Call (.Name "max" p) [e] [] pos) (wCB mxL3 t):=zgv (zcV.or (call_maxP hr hc) (call_maxI hc)) (λH G xs ts Q Q3 d r h im=>by
 unfold mxL3 at h
 split at h
 ·cases d with
  | cons d1 d2 =>
   cases d2
   cases d1
   split at h
   ·rename_i us eg
    obtain⟨xs,e1,ds⟩:=r _ _ eg
    rcases h with ⟨x,rr,eu,h⟩ | ⟨x,rr,eu,h⟩
    ·subst eu
     refine .inl ⟨_,xs,x,rr,rfl,SqL.of e1,zeW ds,λi y hy hb=>?_⟩
     obtain⟨t',et,dt⟩:=ds.getV hy
     rw[List.getElem?_map,hb]at et
     cases et
     exact im _ G _ H h (Kp.refl _) dt r
    ·subst eu
     have:=zdP ds
     subst this
     exact .inr ⟨_,x,rr,rfl,SqL.of e1,im _ G _ H h (Kp.refl _) (.int _) r⟩
   ·exact h.elim
 ·exact h.elim) hm boot_max ha hg (by decide) (by decide) he hpl
end
end L3
namespace L2
open PySem.W PyProof.Rows
noncomputable def zf0(n:Nat)(lt:Nat->Nat->Bool){α:Type}(R:α->Prop):KasT α->Prop
 | .ret a=>R a
 | .ask i j k=>i < n/\j < n/\zf0 n lt R (k (lt i j))
section
variable {n:Nat}{lt:Nat->Nat->Bool}
theorem zf0.mono{α:Type}{R R':α->Prop}(h:∀ a,R a->R' a):∀ {t:KasT α},zf0 n lt R t->zf0 n lt R' t
 | .ret a,r=>h a r
 | .ask i j k,r=>⟨r.1,r.2.1,zf0.mono h r.2.2⟩
theorem zf0.bind{α β:Type}{R:β->Prop}{f:α->KasT β}:∀ {t:KasT α},zf0 n lt (λa=>zf0 n lt R (f a)) t->zf0 n lt R (t.bind f)
 | .ret a,r=>r
 | .ask i j k,r=>⟨r.1,r.2.1,zf0.bind r.2.2⟩
structure Ord(n:Nat)(lt:Nat->Nat->Bool):Prop where
 asym:∀ i j,lt i j=true->lt j i=false
 trans:∀ i j k,lt i j=true->lt j k=true->lt i k=true
 tot:∀ i j,i < n->j < n->i≠j->lt i j=false->lt j i=true
noncomputable abbrev zc6(n:Nat)(p:Array Nat):Prop:=p.Perm (List.toArray (List.range n))
theorem zc6.size{p:Array Nat}(h:zc6 n p):p.size=n:=by have:=h.size_eq; simpa using this
theorem zc6.below{p:Array Nat}(h:zc6 n p)(h0:0 < n)(i:Nat):p.getD i 0 < n:=by
 by_cases hi:i < p.size
 ·have e:p.getD i 0=p[i]:=by simp[Array.getD,hi]
  rw[e]
  have:p[i]∈(List.toArray (List.range n)).toList:=(Array.perm_iff_toList_perm.mp h).mem_iff.mp (by simp)
  simpa using this
 ·have e:p.getD i 0=0:=by simp[Array.getD,hi]
  rw[e]; exact h0
theorem zc6.ne{p:Array Nat}(h:zc6 n p){i j:Nat}(hi:i < n)(hj:j < n)(d:i≠j):p.getD i 0≠p.getD j 0:=by
 have hs:=h.size
 have hi':i < p.size:=by lia
 have hj':j < p.size:=by lia
 have e:p.getD i 0=p[i]:=by simp[Array.getD,hi']
 have e2:p.getD j 0=p[j]:=by simp[Array.getD,hj']
 rw[e,e2]
 have nd:p.toList.Nodup:=(Array.perm_iff_toList_perm.mp h).nodup_iff.mpr (by simpa using List.nodup_range)
 intro z
 have:=(List.getElem_inj nd (i:=i) (j:=j) (h₀:=by simpa using hi') (h₁:=by simpa using hj')).mp (by simpa using z)
 exact d this
noncomputable def zjX(lt:Nat->Nat->Bool)(p:Array Nat)(m:Nat):Prop:=∀ i j,i < j->j < m->lt (p.getD i 0) (p.getD j 0)=true
noncomputable def zgK(lt:Nat->Nat->Bool)(p:Array Nat)(m:Nat):Prop:=∀ i j,i < j->j < m->lt (p.getD j 0) (p.getD i 0)=true
theorem zjX.next{p:Array Nat}{m:Nat}(O:Ord n lt)(h:zjX lt p m)(h1:1<=m)(s:lt (p.getD (m - 1) 0) (p.getD m 0)=true):zjX lt p (m+1):=by
 intro i j hij hj
 by_cases e:j < m
 ·exact h i j hij e
 ·have:j=m:=by lia
  subst this
  by_cases e2:i=j - 1
  ·subst e2; exact s
  ·exact O.trans _ _ _ (h i (j - 1) (by lia) (by lia)) s
theorem zgK.next{p:Array Nat}{m:Nat}(O:Ord n lt)(h:zgK lt p m)(h1:1<=m)(s:lt (p.getD m 0) (p.getD (m - 1) 0)=true):zgK lt p (m+1):=by
 intro i j hij hj
 by_cases e:j < m
 ·exact h i j hij e
 ·have:j=m:=by lia
  subst this
  by_cases e2:i=j - 1
  ·subst e2; exact s
  ·exact O.trans _ _ _ s (h i (j - 1) (by lia) (by lia))
theorem t_asc{p:Array Nat}(O:Ord n lt)(hp:zc6 n p):∀ (f m:Nat),1<=m->m+f<=n->zjX lt p m->zf0 n lt (λm'=>m<=m'/\m'<=m+f/\zjX lt p m'/\(m' < m+f->lt (p.getD m' 0) (p.getD (m' - 1) 0)=true)) (kas_asc p f m)
 | 0,m,h1,hf,h=>⟨nLr _,nLr _,h,λz=>absurd z (by lia)⟩
 | f+1,m,h1,hf,h=>by
  refine⟨hp.below (by lia) _,hp.below (by lia) _,?_⟩
  cases c:lt (p.getD m 0) (p.getD (m - 1) 0)with
  | true=>dsimp only; rw[if_pos rfl]; exact⟨Nat.le_refl _,by lia,h,λ_=>c⟩
  | false =>
   dsimp only; rw[if_neg (by simp)]
   have s:=O.tot _ _ (hp.below (by lia) _) (hp.below (by lia) _) (hp.ne (i:=m) (j:=m - 1) (by lia) (by lia) (by lia)) c
   refine (t_asc O hp f (m+1) (by lia) (by lia) (h.next O h1 s)).mono λm' hu=>(by obtain⟨a,b,c,d⟩:=hu; exact⟨by lia,by lia,c,λz=>d (by lia)⟩)
theorem t_desc{p:Array Nat}(O:Ord n lt)(hp:zc6 n p):∀ (f m:Nat),1<=m->m+f<=n->zgK lt p m->zf0 n lt (λr=>r.1=p/\m<=r.2.1/\r.2.1<=m+f/\r.2.2=0/\zgK lt p r.2.1) (kas_desc f p m 0)
 | 0,m,h1,hf,h=>⟨rfl,nLr _,nLr _,rfl,h⟩
 | f+1,m,h1,hf,h=>by
  refine⟨hp.below (by lia) _,hp.below (by lia) _,?_⟩
  cases c:lt (p.getD m 0) (p.getD (m - 1) 0)with
  | true =>
   dsimp only; rw[if_pos rfl,if_neg (by lia)]
   exact(t_desc O hp f (m+1) (by lia) (by lia) (h.next O h1 c)).mono λr hu=>(by obtain⟨a,b,c,d,e⟩:=hu; exact⟨a,by lia,by lia,d,e⟩)
  | false =>
   dsimp only; rw[if_neg (by simp)]
   have s:=O.tot _ _ (hp.below (by lia) _) (hp.below (by lia) _) (hp.ne (i:=m) (j:=m - 1) (by lia) (by lia) (by lia)) c
   refine⟨hp.below (by lia) _,hp.below (by lia) _,?_⟩
   rw[s]; dsimp only; rw[if_pos rfl]
   exact⟨rfl,nLr _,by show m<=_; lia,rfl,h⟩
theorem rev_get{p:Array Nat}{m k:Nat}(hm:m<=p.size):(kas_rev p 0 m).getD k 0=if k < m then p.getD (m - 1 - k) 0 else p.getD k 0:=by
 have e:=getElem?_mirror_all (xs:=p) (i:=0) hm k
 unfold kas_rev
 have g:∀ (a:Array Nat) (k:Nat),a.getD k 0=(a[k]?).getD 0:=λa k=>by rw[Array.getD_eq_getD_getElem?]
 rw[g,e]
 by_cases c:k < m
 ·rw[if_pos ⟨Nat.zero_le _,c⟩,if_pos c,g]; congr 2; lia
 ·rw[if_neg (λz=>c z.2),if_neg c,g]
theorem t_tail3{p:Array Nat}(O:Ord n lt)(hp:zc6 n p){m:Nat}(h1:1<=m)(hm:m<=n)(h:zgK lt p m):zf0 n lt (λr=>1<=r.1/\r.1<=n/\zc6 n r.2/\zjX lt r.2 r.1) (kas_tail3 m n p):=by
 have hp':zc6 n (kas_rev p 0 m):=(mirror_perm _ _ _ _).trans hp
 have hs:=hp.size
 unfold kas_tail3
 refine zf0.bind ((t_asc O hp' (n - m) m h1 (by lia) λi j hij hj=>?_).mono λm' ⟨a,b,c,_⟩=>?_)
 ·rw[rev_get (by lia),rev_get (by lia),if_pos (by lia),if_pos hj]
  exact h _ _ (by lia) (by lia)
 ·exact⟨by lia,by lia,hp',c⟩
theorem t_count{p:Array Nat}(O:Ord n lt)(hp:zc6 n p)(h2:2<=n):zf0 n lt (λr=>1<=r.1/\r.1<=n/\zc6 n r.2/\zjX lt r.2 r.1) (kas_count n p):=by
 unfold kas_count
 refine zf0.bind ((t_asc O hp (n - 1) 1 (nLr _) (by lia) λi j hij hj=>absurd hj (by lia)).mono λm ⟨a,b,c,d⟩=>?_)
 by_cases e1:(m==n)=true
 ·rw[if_pos e1]; exact⟨a,by lia,hp,c⟩
 ·rw[if_neg e1]
  have hlt:m < n:=by
   have:m≠n:=λq=>e1 (by rw[q]; exact beq_self_eq_true _)
   lia
  by_cases e2:m > 1
  ·rw[if_pos e2]
   refine⟨hp.below (by lia) _,hp.below (by lia) _,?_⟩
   rw[c 0 (m - 1) (by lia) (by lia)]; dsimp only; rw[if_pos rfl]
   exact⟨a,by lia,hp,c⟩
  ·rw[if_neg e2]
   have:m=1:=by lia
   subst this
   have s:=d (by lia)
   unfold kas_descPart
   refine zf0.bind ((t_desc O hp (n - 2) 2 (by lia) (by lia) λi j hij hj=>?_).mono λr ⟨a,b,c,q,e⟩=>?_)
   ·have e1:i=0:=by lia
    have e2:j=1:=by lia
    subst e1; subst e2; exact s
   ·rw[if_neg (by lia),a]
    exact t_tail3 O hp (by lia) (by lia) e
theorem ziF{p:Array Nat}(O:Ord n lt)(hp:zc6 n p){k:Nat}(hk:k < n)(hs:zjX lt p k):∀ (f l r:Nat),l<=r->r<=k->r - l<=f->(∀ i,i < l->lt (p.getD i 0) (p.getD k 0)=true)->(∀ i,r<=i->i < k->lt (p.getD k 0) (p.getD i 0)=true) ->
  zf0 n lt (λl=>l<=k/\(∀ i,i < l->lt (p.getD i 0) (p.getD k 0)=true)/\∀ i,l<=i->i < k->lt (p.getD k 0) (p.getD i 0)=true) (kas_place p k f l r)
 | 0,l,r,h1,h2,h3,ha,hb=>⟨by lia,ha,λi hi hik=>hb i (by lia) hik⟩
 | f+1,l,r,h1,h2,h3,ha,hb=>by
  unfold kas_place
  by_cases e:l >= r
  ·rw[if_pos e]; exact⟨by lia,ha,λi hi hik=>hb i (by lia) hik⟩
  ·rw[if_neg e]
   refine⟨hp.below (by lia) _,hp.below (by lia) _,?_⟩
   cases c:lt (p.getD k 0) (p.getD ((l+r) / 2) 0)with
   | true =>
    dsimp only; rw[if_pos rfl]
    refine ziF O hp hk hs f l _ (by lia) (by lia) (by lia) ha λi hi hik=>?_
    by_cases e:i=(l+r) / 2
    ·rw[e]; exact c
    ·exact O.trans _ _ _ c (hs _ i (by lia) hik)
   | false =>
    dsimp only; rw[if_neg (by simp)]
    have s:=O.tot _ _ (hp.below (by lia) _) (hp.below (by lia) _) (hp.ne (i:=k) (j:=(l+r) / 2) hk (by lia) (by lia)) c
    refine ziF O hp hk hs f _ r (by lia) h2 (by lia) (λi hi=>?_) hb
    by_cases e:i=(l+r) / 2
    ·rw[e]; exact s
    ·exact O.trans _ _ _ (hs i _ (by lia) (by lia)) s
theorem bub_get{p:Array Nat}{k l j:Nat}(hk:k < p.size)(hl:l<=k):(bubble p k (k - l)).getD j 0=if j=l then p.getD k 0 else if l < j/\j<=k then p.getD (j - 1) 0 else p.getD j 0:=by
 have e:=getElem?_bubble (xs:=p) hk (k - l) (by lia) j
 have g:∀ (a:Array Nat) (k:Nat),a.getD k 0=(a[k]?).getD 0:=λa k=>by rw[Array.getD_eq_getD_getElem?]
 have e0:k - (k - l)=l:=by lia
 rw[e0]at e
 rw[g,e]
 by_cases c1:j=l
 ·rw[if_pos c1,if_pos c1,g]
 ·rw[if_neg c1,if_neg c1]
  by_cases c2:l < j/\j<=k
  ·rw[if_pos c2,if_pos c2,g]
  ·rw[if_neg c2,if_neg c2,g]
theorem t_bin(O:Ord n lt):∀ (f k:Nat) (p:Array Nat),zc6 n p->1<=k->k+f=n->zjX lt p k->zf0 n lt (λp'=>zc6 n p'/\zjX lt p' n) (kas_bin f p k)
 | 0,k,p,hp,h1,hf,h=>⟨hp,by rw[<- hf]; exact h⟩
 | f+1,k,p,hp,h1,hf,h=>by
  have hs:=hp.size
  refine zf0.bind ((ziF O hp (by lia) h k 0 k (by lia) (nLr _) (by lia) (λi hi=>absurd hi (by lia)) λi hi hik=>absurd hik (by lia)).mono λl ⟨a,b,c⟩=>?_)
  refine t_bin O f (k+1) _ ((bubble_perm _ _ _).trans hp) (by lia) (by lia) λi j hij hj=>?_
  have hk:k < p.size:=by lia
  rw[bub_get hk a,bub_get hk a]
  by_cases i1:i=l
  ·rw[if_pos i1,if_neg (by lia),if_pos (by lia)]
   exact c _ (by lia) (by lia)
  ·rw[if_neg i1]
   by_cases j1:j=l
   ·rw[if_pos j1,if_neg (by lia)]
    exact b i (by lia)
   ·rw[if_neg j1]
    by_cases i2:l < i/\i<=k
    ·rw[if_pos i2,if_pos (by lia)]; exact h _ _ (by lia) (by lia)
    ·rw[if_neg i2]
     by_cases j2:l < j/\j<=k
     ·rw[if_pos j2]
      by_cases q:i=j - 1
      ·lia
      ·exact h _ _ (by lia) (by lia)
     ·rw[if_neg j2]; exact h _ _ hij (by lia)
theorem t_sort(O:Ord n lt)(h2:2<=n):zf0 n lt (λp=>zc6 n p/\zjX lt p n) (kas_sort n):=by
 unfold kas_sort
 refine zf0.bind ((t_count O (Array.Perm.refl _) h2).mono λr ⟨a,b,c,d⟩=>?_)
 by_cases e:r.1 < n
 ·rw[if_pos e]
  have:max r.1 1=r.1:=by lia
  rw[this]
  exact t_bin O _ _ _ c a (by lia) d
 ·rw[if_neg e]
  have:r.1=n:=by lia
  rw[this]at d
  exact⟨c,d⟩
end
end L2
namespace L2
open PySem PySem.Spec PyProof.Rows
section
variable {prog:Program}{w:World}{A:Around}{E:Value->Shared->Prop}{s:Shared}
theorem zjJ{α:Type}{n:Nat}{lt:Nat->Nat->Bool}{cmp:Nat->Nat->(Bool->Shared->Prop)->Shared->Prop}{R:α->Prop}{G:α->Shared->Prop}(hc:∀ i j (C:Bool->Shared->Prop),i < n->j < n->C (lt i j) s->cmp i j C s)(hG:∀ a,R a->G a s) :
  ∀ {t:W.KasT α},zf0 n lt R t->t.kasWp cmp G s
 | .ret a,r=>hG a r
 | .ask i j k,r=>hc i j _ r.1 r.2.1 (zjJ hc hG r.2.2)
theorem lt_pairT{x y:Addr}{a b c d:Int}{t u t' u':Tok}{Q:Bool->Shared->Prop}(hx:s.heap.IsTuple x #[.int a t,.int b u])(hy:s.heap.IsTuple y #[.int c t',.int d u'])
  (q:Q (P.ltP (a,b) (c,d)) s):wpAny (model prog w) A (keyLt' (tuples' true) (.ref x) (.ref y)) Q E s:=by
 obtain⟨ox,x1,x2,nx,x3⟩:=hx
 obtain⟨oy,y1,y2,ny,y3⟩:=hy
 refine W.kat_lt x1 x3 y1 y3 ?_
 show W.KatLex prog w A true _ Q [(.int a t,.int c t'),(.int b u,.int d u')] 0 s
 refine W.kat_cons (wpAny_eqBool_int ?_)
 by_cases e:a=c
 ·subst e
  have e':(a==a)=true:=by simp
  rw[e']
  refine W.kat_yes (W.kat_cons (wpAny_eqBool_int ?_))
  by_cases e:b=d
  ·subst e
   have e':(b==b)=true:=by simp
   rw[e']
   refine W.kat_yes (W.kat_nil ?_)
   have z:P.ltP (a,b) (a,b)=false:=by simp[P.ltP]
   rw[z]at q
   simpa using q
  ·have e':(b==d)=false:=by simpa using e
   rw[e']
   refine W.kat_no ?_
   have z:P.ltP (a,b) (a,d)=decide (b < d):=by simp[P.ltP]
   rw[z]at q
   refine W.kat_one _ _ ?_
   exact richCompare_gives (op:=.Lt) (typeIs_int s _ u) (typeIs_int s _ u') F.slot_int_lt F.entry_int_lt (F.args_int_lt_2 _ _) (gives_int_lt _ _ u u') (λx=>nomatch x) q
 ·have e':(a==c)=false:=by simpa using e
  rw[e']
  refine W.kat_no ?_
  have z:P.ltP (a,b) (c,d)=decide (a < c):=by simp[P.ltP]; intro h; lia
  rw[z]at q
  exact oneLt_int q
noncomputable def zb3(h:Heap)(vs:List Value)(qs:List (Int×Int)):Prop:=Paired (λ(v:Value) (q:Int×Int)=>∃ a t u,v=.ref a/\h.IsTuple a #[.int q.1 t,.int q.2 u]) vs qs
theorem zb3.keeps{h h':Heap}{vs:List Value}{qs:List (Int×Int)}(k:∀ b o,h.get? b=some o->o.cls=.type "tuple"->h'.get? b=some o) (p:zb3 h vs qs):zb3 h' vs qs :=
 Paired.mapP p λ_ _ hu=>(by obtain⟨a,t,u,e,o,e1,e2,r⟩:=hu; exact⟨a,t,u,e,o,k _ _ e1 e2,e2,r⟩)
theorem zb3.get{h:Heap}{vs:List Value}{qs:List (Int×Int)}(p:zb3 h vs qs){i:Nat}(hi:i < vs.length):∃ a t u,vs.getD i .none=.ref a/\h.IsTuple a #[.int (qs.getD i (0,0)).1 t,.int (qs.getD i (0,0)).2 u]:=by
 obtain⟨q,hq,a,t,u,e,r⟩:=zdT p (lGe hi)
 refine⟨a,t,u,?_,?_⟩
 ·rw[List.getD_eq_getElem?_getD,List.getElem?_eq_getElem hi]; exact e
 ·rw[List.getD_eq_getElem?_getD,hq]; exact r
theorem zb3.tups{h:Heap}:∀ {vs:List Value} {qs:List (Int×Int)},zb3 h vs qs->∃ fs,W.KatTups h vs fs/\fs.length=vs.length/\∀ v∈fs,∃ i t,v=Value.int i t
 | _,_,.nil=>⟨[],W.KatTups.nil,rfl,λv hv=>by cases hv⟩
 | _,_,.cons ⟨a,t,u,e,o,e1,e2,n,e3⟩ r=>by
  obtain⟨fs,k,l,m⟩:=zb3.tups r
  subst e
  refine⟨_::fs,W.KatTups.cons e1 e2 e3 rfl k,by simp[l],λv hv=>?_⟩
  rcases List.mem_cons.mp hv with h | h
  ·exact⟨_,t,h⟩
  ·exact m v h
noncomputable def zbF(qs:List (Int×Int)):List (Int×Int):=qs.mergeSort λa b=>!P.ltP b a
theorem zjB{a b:Int×Int}(h:P.ltP a b=true):P.ltP b a=false:=by
 unfold P.ltP at h ⊢; simp only[decide_eq_true_eq,decide_eq_false_iff_not]at h ⊢; lia
theorem ltP_trans{a b c:Int×Int}(h:P.ltP a b=true)(h':P.ltP b c=true):P.ltP a c=true:=by
 unfold P.ltP at h h' ⊢; simp only[decide_eq_true_eq]at h h' ⊢; lia
theorem ltP_tot{a b:Int×Int}(ne:a≠b)(h:P.ltP a b=false):P.ltP b a=true:=by
 unfold P.ltP at h ⊢; simp only[decide_eq_true_eq,decide_eq_false_iff_not]at h ⊢
 have:a.1=b.1->a.2≠b.2:=λe1 e2=>ne (Prod.ext e1 e2)
 lia
theorem sortP_perm(qs:List (Int×Int)):(zbF qs).Perm qs:=List.mergeSort_perm _ _
theorem sortP_le(qs:List (Int×Int)):(zbF qs).Pairwise λa b=>P.ltP b a=false:=by
 have:=List.pairwise_mergeSort (le:=λa b:Int×Int=>!P.ltP b a) (λa b c=>by
  simp only[Bool.not_eq_true']
  intro h1 h2
  unfold P.ltP at h1 h2 ⊢; simp only[decide_eq_false_iff_not]at h1 h2 ⊢; lia) (λa b=>by
  simp only[Bool.or_eq_true,Bool.not_eq_true']
  unfold P.ltP; simp only[decide_eq_false_iff_not]; lia) qs
 exact this.imp λh=>by simpa using h
theorem sortP_eq{ms qs:List (Int×Int)}(p:ms.Perm qs)(s:ms.Pairwise λa b=>P.ltP a b=true):ms=zbF qs :=
 (p.trans (sortP_perm qs).symm).eq_of_pairwise (le:=λa b=>P.ltP b a=false) (λa b _ _ h1 h2=>by
  unfold P.ltP at h1 h2; simp only[decide_eq_false_iff_not]at h1 h2
  exact Prod.ext (by lia) (by lia)) (s.imp λh=>zjB h) (sortP_le qs)
theorem zbQ{α:Type}(l:List α)(d:α):(List.range l.length).map (λi=>l.getD i d)=l:=by
 refine List.ext_getElem? λi=>?_
 by_cases h:i < l.length
 ·simp[h]
 ·simp[h]
theorem ord_pairs{qs:List (Int×Int)}(nd:qs.Nodup):Ord qs.length (λi j=>P.ltP (qs.getD i (0,0)) (qs.getD j (0,0))):=by
 refine⟨λi j h=>zjB h,λi j k h h'=>ltP_trans h h',λi j hi hj ne h=>ltP_tot (λz=>ne ?_) h⟩
 have e1:qs.getD i (0,0)=qs[i]:=by simp[hi]
 have e2:qs.getD j (0,0)=qs[j]:=by simp[hj]
 rw[e1,e2]at z
 exact(List.getElem_inj nd).mp z
theorem sorted_ix{qs:List (Int×Int)}{p:Array Nat}(hp:zc6 qs.length p)(hs:zjX (λi j=>P.ltP (qs.getD i (0,0)) (qs.getD j (0,0))) p qs.length):p.toList.map (λi=>qs.getD i (0,0))=zbF qs:=by
 have h1:p.toList.Perm (List.range qs.length):=by have:=Array.perm_iff_toList_perm.mp hp; simpa using this
 refine sortP_eq ?_ ?_
 ·have:=h1.map λi=>qs.getD i (0,0)
  rwa [zbQ]at this
 ·rw[List.pairwise_map,List.pairwise_iff_getElem]
  intro i j hi hj hij
  have hz:=hp.size
  have hj':j < p.size:=by simpa using hj
  have hi':i < p.size:=by simpa using hi
  have:=hs i j hij (by lia)
  simpa [Array.getD,hi',hj'] using this
theorem ziU{a:Addr}{vs:List Value}{qs:List (Int×Int)}{n:Nat}{PP:Fin->Shared->Prop}(ho:s.heap.get? a=some (seqObj "list" vs.toArray n)) (hq:zb3 s.heap vs qs) (nd:qs.Nodup) (h64:vs.length < 64)
  (h:∀ (is:List Nat),is.Perm (List.range vs.length)->is.map (λi=>qs.getD i (0,0))=zbF qs->PP (.done (.ret .none)) { s with heap:=sortedHeap s.heap a vs (is.map λi=>vs.getD i Value.none).toArray }) :
  wpAny (model prog w) A (Builtin.«list.sort» ⟨[.ref a],[]⟩) PP E s:=by
 have hlen:vs.length=qs.length:=Paired.length hq
 rw[list_sort_plain]
 have ha:a < s.heap.objs.size:=hLz ho
 refine wB (listItems_at ho rfl ?_)
 refine wB (listUpdate_at ho rfl ?_)
 obtain⟨e1,ho1⟩:∃ e1,(s.heap.update a (Obj.mapSeq λ_=>#[])).get? a=some (seqObj "list" #[] e1):=⟨_,get?_update_seq ho (λ_=>#[])⟩
 refine wB (seqEpoch_at ho1 rfl ?_)
 refine wB (wpAny_newTuple ?_)
 refine wB (wpAny_newList ?_)
 refine wpAny_holding ?_
 have ho6:(((s.heap.update a (Obj.mapSeq λ_=>#[])).push (seqObj "tuple" vs.toArray 0)).push (seqObj "list" #[] 0)).get? a=some (seqObj "list" #[] e1):=by
  rw[Heap.get?_push_ne _ _ _ (by rw[size_push',Heap.size_update]; exact Nat.ne_of_lt (Nat.lt_succ_of_lt ha)),Heap.get?_push_ne _ _ _ (by rw[Heap.size_update]; exact Nat.ne_of_lt ha)]
  exact ho1
 have hq6:zb3 (((s.heap.update a (Obj.mapSeq λ_=>#[])).push (seqObj "tuple" vs.toArray 0)).push (seqObj "list" #[] 0)) vs qs:=hq.keeps λb o e1 e2=>by
  have hb:b≠a:=λz=>by rw[z,ho]at e1; cases e1; simp at e2
  exact hPs _ (hPs _ ((Heap.get?_update_other _ _ (Ne.symm hb)).trans e1))
 show wpAny (model prog w) A _ PP E { s with heap:=((s.heap.update a (Obj.mapSeq λ_=>#[])).push (seqObj "tuple" vs.toArray 0)).push (seqObj "list" #[] 0) }
 dsimp only
 have hsz:vs.toArray.size=vs.length:=by simp
 by_cases h2:vs.toArray.size < 2
 ·rw[if_pos h2,if_pos h2]
  refine wB (wQ ?_)
  rw[StateT.run_pure]
  refine wB (wQ ?_)
  dsimp only
  refine wB (seqEpoch_at ho6 rfl ?_)
  refine wpAny_bind (listUpdate_at ho6 rfl ?_ (hsz2:=by rw[Array.size_map]; show(vs.toArray.zip vs.toArray).size<=_; rw[Array.size_zip,sizeLine_eq]; lia))
  simp only[bne_self_eq_false,Bool.false_eq_true,if_false]
  have eo:(arrOf (SortSt.mk' general' (vs.toArray.zip vs.toArray) #[] 7 none)).map (·.2)=((List.range vs.length).map λi=>vs.getD i Value.none).toArray:=by
   rw[zbQ]
   show(vs.toArray.zip vs.toArray).map (·.2)=vs.toArray
   have key:∀ l:List Value,(l.zip l).map (λx=>x.2)=l:=λl=>by
    induction l with
    | nil=>rfl
    | cons x r ih=>simp[ih]
   simp[key]
  rw[eo]
  refine wQ (h (List.range vs.length) (List.Perm.refl _) ?_)
  rw[hlen,zbQ]
  have hl:qs.length < 2:=by lia
  cases qs with
  | nil=>simp[zbF]
  | cons q r =>
   cases r with
   | nil=>simp[zbF]
   | cons _ _=>simp at hl; lia
 ·rw[if_neg h2,if_neg h2]
  obtain⟨fs,kt,kl,ki⟩:=hq6.tups
  have ask:wpAny (model prog w) A (keyKind' vs.toArray) (λκ s'=>κ=tuples' true/\s'={ s with heap:=((s.heap.update a (Obj.mapSeq λ_=>#[])).push (seqObj "tuple" vs.toArray 0)).push (seqObj "list" #[] 0) }) E { s with heap:=((s.heap.update a (Obj.mapSeq λ_=>#[])).push (seqObj "tuple" vs.toArray 0)).push (seqObj "list" #[] 0) } :=
   W.kat_kind (T:=.type "int") kt (by lia) (λv hv=>by obtain⟨i,t,rfl⟩:=ki v hv; exact W.Looks.of_pure rfl) (by rfl) ⟨by rfl,rfl⟩
  refine wB (wpAny_mono ask (λκ s0 hk=>?_) λ_ _ x=>x)
  obtain⟨rfl,rfl⟩:=hk
  refine wpAny_bind (wpAny_mono (W.kat_run (κ:=tuples' true) (ks:=vs) (vs:=vs) (Q:=λst' s'=>s'={ s with heap:=((s.heap.update a (Obj.mapSeq λ_=>#[])).push (seqObj "tuple" vs.toArray 0)).push (seqObj "list" #[] 0) }/\∃ p:Array Nat,zc6 qs.length p/\zjX (λi j=>P.ltP (qs.getD i (0,0)) (qs.getD j (0,0))) p qs.length/\arrOf st'=p.map (W.kas_item (vs.toArray.zip vs.toArray))/\failedOf st'=none)
   (G:=λp s'=>s'={ s with heap:=((s.heap.update a (Obj.mapSeq λ_=>#[])).push (seqObj "tuple" vs.toArray 0)).push (seqObj "list" #[] 0) }/\zc6 qs.length p/\zjX (λi j=>P.ltP (qs.getD i (0,0)) (qs.getD j (0,0))) p qs.length)
   rfl (by lia) h64 (λp' st' s' a1 a2 a3 a4=>⟨a4.1,p',a4.2.1,a4.2.2,a2,a3⟩) ?_) ?_ λ_ _ e=>e)
  ·rw[hlen]
   refine zjJ (lt:=λi j=>P.ltP (qs.getD i (0,0)) (qs.getD j (0,0))) (λi j C hi hj hC=>?_) (λp hp=>⟨rfl,hp⟩) (t_sort (ord_pairs nd) (by lia))
   obtain⟨x,t,u,ex,tx⟩:=hq6.get (i:=i) (by lia)
   obtain⟨y,t',u',ey,ty⟩:=hq6.get (i:=j) (by lia)
   unfold W.kas_ask
   rw[ex,ey]
   exact lt_pairT tx ty hC
  ·rintro⟨⟨⟩,st'⟩ s' ⟨rfl,p,hp,hs,har,hf⟩
   dsimp only
   have hout:=W.kat_snds (vs:=vs) rfl har
   rw[hout]
   have hp':p.toList.Perm (List.range vs.length):=by have:=Array.perm_iff_toList_perm.mp hp; rw[hlen]; simpa using this
   refine wB (seqEpoch_at ho6 rfl ?_)
   refine wpAny_bind (listUpdate_at ho6 rfl ?_ (hsz2:=by rw[List.size_toArray,List.length_map,hp'.length_eq,List.length_range,sizeLine_eq]; lia))
   rw[hf]
   simp only[bne_self_eq_false,Bool.false_eq_true,if_false]
   exact wQ (h p.toList hp' (sorted_ix hp hs))
theorem sortedP_of{a:Value}{vs:List Value}{qs:List (Int×Int)}{Q:Value->Shared->Prop}(hI:zb3 s.heap vs qs)(nd:qs.Nodup)(h64:vs.length < 64)
  (hc:∀ (A':Around) (E':Value->Shared->Prop) (Q':List Value->Shared->Prop),A'.handled=A.handled->(∀ h' tk,(∀ b o,s.heap.get? b=some o->h'.get? b=some o)->Q' vs { s with heap:=h',toks:=tk })->wpAny (model prog w) A' (collect a) Q' E' s)
  (h:∀ (h1 h':Heap) (tk:Nat) (p:Addr) (e:Nat) (is:List Nat),(∀ b o,s.heap.get? b=some o->h1.get? b=some o)->(∀ b o,h1.get? b=some o->h'.get? b=some o)->h1.objs.size<=p->is.Perm (List.range vs.length)->is.map (λi=>qs.getD i (0,0))=zbF qs ->
   h'.get? p=some (seqObj "list" (is.map λi=>vs.getD i Value.none).toArray e)->Q (.ref p) { s with heap:=h',toks:=tk }) :
  wpAny (model prog w) A (call (.builtin "sorted") [a]) Q E s:=by
 refine Calls.call_function_entry kind_sorted plain_sorted entry_sorted (args_sorted1 _) ?_
 unfold Builtin.«sorted»
 refine wpAny_bind (m:=checkCount "sorted" 1 1 _) (wpAny_pure ?_)
 refine wB (hc _ _ _ rfl λh1 tk k1=>?_)
 refine wpAny_bind (wpAny_newList ?_ (by rw[sizeLine_eq]; lia))
 have hoL:(h1.push (seqObj "list" vs.toArray 0)).get? h1.objs.size=some (seqObj "list" vs.toArray 0):=Heap.get?_push_size _ rfl
 refine wpAny_bind (wpAny_holding (wpAny_call_entry (s:={ s with heap:=h1.push (seqObj "list" vs.toArray 0),toks:=tk }) slot_list_sort ⟨_,hoL,rfl⟩ entry_list_sort (ziU hoL (hI.keeps λb o e _=>Heap.get?_push_of_some _ (k1 b o e)) nd h64 λis a1 a2=>⟨_,rfl,?_⟩) (args_list_sort _)))
 refine wQ ⟨_,rfl,?_⟩
 obtain⟨e,he⟩:=sortedHeap_at (out:=(is.map λi=>vs.getD i Value.none).toArray) hoL
 refine h h1 _ tk _ e is k1 (λb o q1=>?_) (nLr _) a1 a2 he
 have lt:=hLz q1
 rw[sortedHeap_old (Nat.ne_of_lt lt) (by rw[Heap.size_push]; exact Nat.lt_succ_of_lt lt)]
 exact hPs _ q1
theorem vals_getD:∀ {ys:List V} {us:List Value} (i:Nat),zaM ys us->i < ys.length->zaK (ys.getD i .non) (us.getD i .none)
 | _,_,i,r,hi=>by
  obtain⟨u,hu,ru⟩:=r.get (lGe hi)
  rw[List.getD_eq_getElem?_getD,List.getD_eq_getElem?_getD,hu,List.getElem?_eq_getElem hi]
  exact ru
theorem ziC{ys:List V}{us:List Value}(r:zaM ys us):∀ {is:List Nat},(∀ i∈is,i < ys.length)->zaM (is.map λi=>ys.getD i .non) (is.map λi=>us.getD i .none)
 | [],_=>.nil
 | i::t,h=>.cons (vals_getD i r (h i (List.mem_cons_self ..))) (ziC r λj hj=>h j (lMc _ hj))
end
section
variable {X:Cx}
theorem zig(hc:X.calm=true):zcV X (.builtin "sorted") (λxs H Q=>∃ p ys qs,xs=[.ref p]/\SqL X.K H p ys/\Paired (λ(y:V) (q:Int×Int)=>∃ a,y=.ref a/\SqT X.K H a [.int q.1,.int q.2]) ys qs/\qs.Nodup/\qs.length < 64 /\
  ∀ (is:List Nat) (l:Addr),is.Perm (List.range ys.length)->is.map (λi=>qs.getD i (0,0))=zbF qs->H l=none->Q (.ref l) (upd H l (.lst (is.map λi=>ys.getD i .non)))):=by
 intro pins s σ H xs us Q I r h
 obtain⟨p,ys,qs,rfl,hq,ps,nd,h64,q⟩:=h
 obtain⟨u,rfl,ru⟩:=vals1 r
 cases ru
 obtain⟨its,rv,pl,hz⟩:=I.list hq
 have hl1:ys.length=its.length:=rv.length
 have hl2:ys.length=qs.length:=Paired.length ps
 have pa:zb3 s.heap its qs:=by
  clear q pl hq r hz hl1 hl2 nd h64
  induction ps generalizing its with
  | nil=>cases rv; exact .nil
  | cons hd tl ih =>
   cases rv with
   | cons r1 rr =>
    obtain⟨a,ea,sa⟩:=hd
    subst ea
    cases r1
    obtain⟨its',rv',pt,_⟩:=I.tuple sa
    cases rv' with
    | cons r1 rr'=>cases rr' with
     | cons r2 rr'=>cases rr'; obtain⟨t,rfl⟩:=r1; obtain⟨t',rfl⟩:=r2; exact .cons ⟨a,t,t',rfl,pt⟩ (ih _ rr)
 refine sortedP_of pa nd (by lia) (λA' E' Q' _ q'=>collect_list pl.isList (q' _ s.toks λb o z=>?_) (by rw[sizeLine_eq]; lia)) λh1 h' tk l e is k1 k2 hp pm so e1=>?_
 ·have lt:=hLz z
  rw[Heap.get?_update_ne _ _ _ _ (Nat.ne_of_lt lt)]
  exact hPs _ z
 ·have I1:Inv X pins σ H { s with heap:=h1,toks:=tk }:=I.kept k1
  have hn:=I1.hok.fresh hp
  rw[<- hl1]at pm
  have hb:∀ i∈is,i < ys.length:=λi hi=>List.mem_range.mp (pm.mem_iff.mp hi)
  have I2:Inv X pins σ (upd H l (.lst (is.map λi=>ys.getD i .non))) { s with heap:=h',toks:=tk }:=I1.laid (t':=tk) k2 hp ⟨by rw[List.length_map,pm.length_eq,List.length_range,sizeLine_eq]; lia,_,e,ziC rv hb,e1⟩
  exact⟨.ref l,_,I2,rfl,q is l pm so hn⟩
end
end L2
namespace L3
open PySem PySem.Spec PyProof.Rows L2
section
variable {X:Cx}{e a b c o i l:Expr}{es:List Expr}{pos apos p p2 pos2:Pos}{ta tb tc tv to ti tl:TE3}{t:TA3}{k:Nat}{tg:Expr}{st:Stmt}
theorem dens_ix{K:KW}{H:Hp}{ys:List V}{qs:List (Int×Int)}(d:Dens K H ys (qs.map pT)):∀ {is:List Nat},(∀ i∈is,i < ys.length)->Dens K H (is.map λi=>ys.getD i .non) ((is.map λi=>qs.getD i (0,0)).map pT)
 | [],_=>.nil
 | j::r,h=>by
  refine .cons ?_ (dens_ix d λj hj=>h j (lMc _ hj))
  have hj:=h j (List.mem_cons_self ..)
  obtain⟨t',e1,d1⟩:=d.getV (lGe hj)
  rw[List.getElem?_map,Option.map_eq_some_iff]at e1
  obtain⟨q,e2,rfl⟩:=e1
  show Den K H (ys.getD j .non) (pT (qs.getD j (0,0)))
  rw[List.getD_eq_getElem?_getD,List.getD_eq_getElem?_getD,e2,List.getElem?_eq_getElem hj]
  exact d1
noncomputable def srtP3:List T->Gp->VK3->Prop:=λts G Q=>match ts with
 | [.ref q]=>(match G q with
  | some (.lst us)=>∃ qs:List (Int×Int),us=qs.map pT/\qs.Nodup/\qs.length < 64/\∀ p,G p=none->Q (.ref p) (updG G p (.lst ((zbF qs).map pT)))
  | _=>False)
 | _=>False
theorem qsortedP(hm:X.mg "sorted"=none) (ha:QA X (e::es) t) (hg:Gl X "sorted":=by rfl) (he:starEach (e::es) X.env=(false,eval e X.env)::starEach es X.env:=by rfl) (hpl:(backTo pos (starEach es X.env)).any (·.1)=false:=by rfl) (hc:X.calm=true:=by rfl) :
  QE X (.Call (.Name "sorted" p) (e::es) [] pos) (wCB srtP3 t):=zgv (zig hc) (λH G xs ts Q Q3 d r h im=>by
 unfold srtP3 at h
 split at h
 ·cases d with
  | cons d1 d2 =>
   cases d2
   cases d1
   split at h
   ·rename_i us eg
    obtain⟨ys,e1,ds⟩:=r _ _ eg
    obtain⟨qs,eu,nd,h64,h⟩:=h
    subst eu
    refine⟨_,ys,qs,rfl,SqL.of e1,zeW ds,nd,h64,λis l pm so hn=>?_⟩
    have hb:∀ i∈is,i < ys.length:=λi hi=>List.mem_range.mp (pm.mem_iff.mp hi)
    refine im _ _ _ _ (h l (r.free hn)) (Kp.new hn) (.ref l) (r.new (o:=.lst ((zbF qs).map pT)) hn ⟨_,zal,?_⟩)
    rw[<- so]
    exact(dens_ix ds hb).mono (Kp.new hn)
   ·exact h.elim
 ·exact h.elim) hm boot_sorted ha hg (by decide) (by decide) he hpl
noncomputable def wLR(t:TA3):TE3:=λτ G Q=>t τ G λts G1=>match ts with
 | [.int j]=>0<=j/\j<=1000000/\∀ p,G1 p=none->Q (.ref p) (updG G1 p (.lst ((List.range j.toNat).map λ(k:Nat)=>T.int k)))
 | _=>False
noncomputable def pop3(x:T)(ts:List T)(G:Gp)(Q:VK3):Prop:=match x,ts with
 | .ref p,[.int i]=>(match G p with
  | some (.lst us)=>0<=i/\i < us.length/\us.length<=1000000/\Q (us.getD i.toNat .non) (updG G p (.lst (us.eraseIdx i.toNat)))
  | _=>False)
 | _,_=>False
noncomputable def wPop(ta:TE3)(t:TA3):TE3:=λτ G Q=>ta τ G λx G1=>ze7 x G1 (t τ G1 λts G2=>pop3 x ts G2 Q)
end
end L3
namespace Ts
open PySem PyProof.Rows PySem.W
structure Ab where
 p:Array Nat
 pend:Array (Nat×Nat×Nat)
 mg:Nat
structure Cq where
 f:Nat->Nat->Bool
 k:SortKind
instance:CoeFun Cq (λ_=>Nat->Nat->Bool):=⟨Cq.f⟩
noncomputable def con(κ:SortKind)(it:Array Keyed)(σ:Ab):SortSt:=SortSt.mk' κ (σ.p.map (kas_item it)) σ.pend σ.mg none
noncomputable def Ans(prog:Program)(w:World)(A:Around)(it:Array Keyed)(n:Nat)(c:Cq)(s:Shared):Prop:=∀ i j,i < n->j < n->∀ C:Bool->Shared->Prop,C (c i j) s->kas_cmp prog w A c.k it i j C s
noncomputable def zaJ(n:Nat)(c:Cq){α:Type}(m:Array Keyed->StateT SortSt Sem α)(σ:Ab)(r:Array Keyed->α)(σ':Ab):Prop :=
 ∀ (prog:Program) (w:World) (A:Around) (E:Value->Shared->Prop) (it:Array Keyed) (s:Shared) (Q:α->SortSt->Shared->Prop),it.size=n->Ans prog w A it n c s->Q (r it) (con c.k it σ') s->kasC (model prog w) A E (m it) Q (con c.k it σ) s
section
variable {n:Nat}{c:Cq}{α β:Type}{σ σ' σ'':Ab}
theorem zaJ.get:zaJ n c (λ_=>(get:StateT SortSt Sem SortSt)) σ (λit=>con c.k it σ) σ:=λ_ _ _ _ _ _ _ _ _ q=>kasC_get q
theorem zaJ.pure{r:Array Keyed->α}:zaJ n c (λit=>pure (r it)) σ r σ:=λ_ _ _ _ _ _ _ _ _ q=>kasC_pure q
theorem zaJ.bind{m:Array Keyed->StateT SortSt Sem α}{f:Array Keyed->α->StateT SortSt Sem β}{r:Array Keyed->α}{r2:Array Keyed->β}(h:zaJ n c m σ r σ')(h2:zaJ n c (λit=>f it (r it)) σ' r2 σ''):zaJ n c (λit=>m it >>= f it) σ r2 σ'' :=
 λprog w A E it s Q hn ha q=>kasC_bind (h prog w A E it s _ hn ha (h2 prog w A E it s Q hn ha q))
theorem zaJ.rule{x:String}{f:Array Keyed->StateT SortSt Sem β}{r2:Array Keyed->β}(h2:zaJ n c f σ r2 σ''):zaJ n c (λit=>(liftM (PySem.rule x):StateT SortSt Sem Unit) >>= λ_=>f it) σ r2 σ'' :=
 λprog w A E it s Q hn ha q=>kasC_bind (kasC_lift (wpAny_rule (h2 prog w A E it s Q hn ha q)))
theorem zaJ.elem{ix:Array Nat}{i:Nat}(hi:i < ix.size):zaJ n c (λit=>elem' (ix.map (kas_item it)) i) σ (λit=>kas_item it (ix.getD i 0)) σ:=λprog w A E it s Q hn ha q=>by
 dsimp only
 rw[elem'_eq]
 have:(ix.map (kas_item it))[i]?=some (kas_item it (ix.getD i 0)):=by simp[hi,Array.getD]
 rw[this]
 exact kasC_pure q
theorem zaJ.lt{i j:Nat}(hi:i < n)(hj:j < n):zaJ n c (λit=>lt' (kas_item it i) (kas_item it j)) σ (λ_=>some (c i j)) σ:=λprog w A E it s Q hn ha q=>by
 dsimp only
 rw[lt'_eq]
 refine kasC_bind (kasC_get ?_)
 refine kasC_bind (kasC_lift (wpAny_attempt (wpAny_mono (ha i j hi hj (λb s'=>b=c i j/\s'=s) ⟨rfl,rfl⟩) (λb s' h=>?_) λ_ _ hF=>hF.elim)))
 obtain⟨rfl,rfl⟩:=h
 exact kasC_pure q
theorem zh2{B:Type}(cb:Array Keyed->B->β)(f:Array Keyed->Nat->β->StateT SortSt Sem (ForInStep β))(I:Nat->B->Ab->Prop)(P:B->Ab->Prop)(h1:∀ b σ,I 0 b σ->P b σ)
  (h2:∀ x k b σ,I (k+1) b σ->(∃ b' σ',P b' σ'/\zaJ n c (λit=>f it x (cb it b)) σ (λit=>.done (cb it b')) σ')∨(∃ b' σ',I k b' σ'/\zaJ n c (λit=>f it x (cb it b)) σ (λit=>.yield (cb it b')) σ')) :
  ∀ (l:List Nat) b σ,I l.length b σ->∃ b' σ',P b' σ'/\zaJ n c (λit=>forIn l (cb it b) (f it)) σ (λit=>cb it b') σ'
 | [],b,σ,i=>⟨b,σ,h1 b σ i,λprog w A E it s Q hn ha q=>kasC_nil q⟩
 | x::l,b,σ,i=>by
  rcases h2 x l.length b σ i with ⟨b',σ',p,d⟩ | ⟨b',σ',i',d⟩
  ·exact⟨b',σ',p,λprog w A E it s Q hn ha q=>kasC_cons (d prog w A E it s _ hn ha q)⟩
  ·obtain⟨b2,σ2,p2,d2⟩:=zh2 cb f I P h1 h2 l b' σ' i'
   exact⟨b2,σ2,p2,λprog w A E it s Q hn ha q=>kasC_cons (d prog w A E it s _ hn ha (d2 prog w A E it s Q hn ha q))⟩
end
noncomputable def zae(n:Nat)(c:Cq){α:Type}(m:Array Keyed->StateT SortSt Sem α)(σ:Ab)(P:(Array Keyed->α)->Ab->Prop):Prop:=∃ r σ',P r σ'/\zaJ n c m σ r σ'
section
variable {n:Nat}{c:Cq}{α β:Type}{σ σ' σ'':Ab}
theorem zae.pure{r:Array Keyed->α}{P:(Array Keyed->α)->Ab->Prop}(h:P r σ):zae n c (λit=>Pure.pure (r it)) σ P:=⟨r,σ,h,zaJ.pure⟩
theorem zae.bindE{m:Array Keyed->StateT SortSt Sem α}{f:Array Keyed->α->StateT SortSt Sem β}{r:Array Keyed->α}{P:(Array Keyed->β)->Ab->Prop}(h:zaJ n c m σ r σ')(k:zae n c (λit=>f it (r it)) σ' P):zae n c (λit=>m it >>= f it) σ P :=
 let ⟨r2,σ2,p,d⟩:=k; ⟨r2,σ2,p,h.bind d⟩
theorem zae.bind{m:Array Keyed->StateT SortSt Sem α}{f:Array Keyed->α->StateT SortSt Sem β}{P0:(Array Keyed->α)->Ab->Prop}{P:(Array Keyed->β)->Ab->Prop}(h:zae n c m σ P0)(k:∀ r σ',P0 r σ'->zae n c (λit=>f it (r it)) σ' P):zae n c (λit=>m it >>= f it) σ P :=
 let ⟨r,σ1,p0,d⟩:=h; (k r σ1 p0).elim λr2 hu=>(by obtain⟨σ2,p,d2⟩:=hu; exact⟨r2,σ2,p,d.bind d2⟩)
theorem zae.mono{m:Array Keyed->StateT SortSt Sem α}{P P':(Array Keyed->α)->Ab->Prop}(h:zae n c m σ P)(k:∀ r σ',P r σ'->P' r σ'):zae n c m σ P':=let ⟨r,σ1,p,d⟩:=h; ⟨r,σ1,k _ _ p,d⟩
theorem zae.loop{B:Type}(cb:Array Keyed->B->β){f:Array Keyed->Nat->β->StateT SortSt Sem (ForInStep β)}(I:Nat->B->Ab->Prop)(P:B->Ab->Prop)(h1:∀ b σ,I 0 b σ->P b σ)
  (h2:∀ x k b σ,I (k+1) b σ->zae n c (λit=>f it x (cb it b)) σ λr σ'=>(∃ b',P b' σ'/\r=λit=>.done (cb it b'))∨(∃ b',I k b' σ'/\r=λit=>.yield (cb it b')))
  {a e:Nat} (b:B) (hI:I (e - a) b σ):zae n c (λit=>forIn [a:e] (cb it b) (f it)) σ λr σ'=>∃ b',P b' σ'/\r=λit=>cb it b':=by
 obtain⟨b',σ',p,d⟩:=zh2 cb f I P h1 (λx k b σ i=>by
  obtain⟨r,σ',h,d⟩:=h2 x k b σ i
  rcases h with ⟨b',p,rfl⟩ | ⟨b',p,rfl⟩
  ·exact .inl ⟨b',σ',p,d⟩
  ·exact .inr ⟨b',σ',p,d⟩) (List.range' a (e - a)) b σ (by simpa using hI)
 exact⟨_,σ',⟨b',p,rfl⟩,λprog w A E it s Q hn ha q=>kasC_range (d prog w A E it s Q hn ha q)⟩
end
theorem zae.pos{n:Nat}{c:Cq}{σ:Ab}{β:Type}{Q:(Array Keyed->β)->Ab->Prop}{p:Prop}{ip:Array Keyed->Decidable p}{A B:Array Keyed->StateT SortSt Sem β}(d:p)(h:zae n c A σ Q):zae n c (λit=>@ite _ p (ip it) (A it) (B it)) σ Q:=by
 simp only[d,if_true]
 exact h
theorem zae.neg{n:Nat}{c:Cq}{σ:Ab}{β:Type}{Q:(Array Keyed->β)->Ab->Prop}{p:Prop}{ip:Array Keyed->Decidable p}{A B:Array Keyed->StateT SortSt Sem β}(d:¬ p)(h:zae n c B σ Q):zae n c (λit=>@ite _ p (ip it) (A it) (B it)) σ Q:=by
 simp only[d,if_false]
 exact h
noncomputable def gallop':Bool->Keyed->Array Keyed->Nat->Nat->Nat->StateT SortSt Sem (Option Nat):=sortPriv% PySem.Builtin.gallop
noncomputable def bz(c:Cq)(left:Bool)(key:Nat)(ix:Array Nat)(i:Nat):Bool:=if left then c (ix.getD i 0) key else !c key (ix.getD i 0)
theorem zcs{n:Nat}{c:Cq}{σ:Ab}{left:Bool}{key:Nat}{ix:Array Nat}{i:Nat}(hk:key < n)(hix:∀ i,i < ix.size->ix.getD i 0 < n)(hi:i < ix.size) :
  zaJ n c (λit=>elem' (ix.map (kas_item it)) i >>= λx=>if left=true then lt' x (kas_item it key)else lt' (kas_item it key) x >>= λo=>Pure.pure (o.map (!·))) σ (λ_=>some (bz c left key ix i)) σ:=by
 refine zaJ.bind (zaJ.elem hi) ?_
 cases left with
 | true=>simpa [bz] using zaJ.lt (hix i hi) hk
 | false =>
  simp only[Bool.false_eq_true,if_false]
  refine zaJ.bind (zaJ.lt hk (hix i hi)) ?_
  simpa [bz] using (zaJ.pure (n:=n) (c:=c) (σ:=σ) (r:=λ_=>some (!c key (ix.getD i 0))))
theorem zbJ{n:Nat}{c:Cq}{σ:Ab}(left:Bool)(key:Nat)(ix:Array Nat)(base m hint:Nat)(hk:key < n)(hix:∀ i,i < ix.size->ix.getD i 0 < n)(hb:base+m<=ix.size)(hh:hint < m) :
  zae n c (λit=>gallop' left (kas_item it key) (ix.map (kas_item it)) base m hint) σ λr σ'=>σ'=σ/\∃ k,k<=m/\r=λ_=>some k:=by
 refine zae.bindE (zcs (left:=left) (i:=base+hint) hk hix (by lia)) ?_
 dsimp only
 cases hr:bz c left key ix (base+hint)with
 | true =>
  simp only[if_true]
  refine zae.bind (zae.loop (λ_ (b:Nat×Nat)=>((none,b.1,b.2):Option (Option Nat)×Nat×Nat)) (λ_ b σ1=>σ1=σ) (λb σ1=>σ1=σ) (λb σ1 h=>h) (λx k b σ1 h=>?_) (0,1) rfl) ?_
  ·subst h
   dsimp only
   by_cases c1:b.2 >= m - hint
   ·refine zae.pos c1 ?_
    exact zae.pure (.inl ⟨b,rfl,rfl⟩)
   ·refine zae.neg c1 ?_
    refine zae.bindE (zcs (left:=left) (i:=base+(hint+b.2)) hk hix (by lia)) ?_
    dsimp only
    cases bz c left key ix (base+(hint+b.2))with
    | true=>exact zae.pure (.inr ⟨(b.2,2 * b.2+1),rfl,rfl⟩)
    | false=>exact zae.pure (.inl ⟨b,rfl,rfl⟩)
  ·rintro r σ1 ⟨b0,h1,rfl⟩
   rw[h1]
   dsimp only
   refine zae.bind (zae.loop (λ_ (b:Nat×Nat)=>((none,b.1,b.2):Option (Option Nat)×Nat×Nat)) (λ_ b σ1=>σ1=σ/\b.2<=m) (λb σ1=>σ1=σ/\b.2<=m) (λb σ1 h=>h) (λx k b σ1 h=>?_) (_,_) ⟨rfl,by simp; lia⟩) ?_
   ·obtain⟨rfl,hm⟩:=h
    dsimp only
    by_cases c1:b.1 >= b.2
    ·refine zae.pos c1 ?_
     exact zae.pure (.inl ⟨b,⟨rfl,hm⟩,rfl⟩)
    ·refine zae.neg c1 ?_
     refine zae.bindE (zcs (left:=left) (i:=base+(b.1+(b.2 - b.1) / 2)) hk hix (by lia)) ?_
     dsimp only
     cases bz c left key ix (base+(b.1+(b.2 - b.1) / 2))with
     | true=>exact zae.pure (.inr ⟨(b.1+(b.2 - b.1) / 2+1,b.2),⟨rfl,hm⟩,rfl⟩)
     | false=>exact zae.pure (.inr ⟨(b.1,b.1+(b.2 - b.1) / 2),⟨rfl,by simp; lia⟩,rfl⟩)
   ·rintro r σ2 ⟨b,⟨rfl,hm⟩,rfl⟩
    exact zae.pure ⟨rfl,b.2,hm,rfl⟩
 | false =>
  simp only[Bool.false_eq_true,if_false]
  refine zae.bind (zae.loop (λ_ (b:Nat×Nat)=>((none,b.1,b.2):Option (Option Nat)×Nat×Nat)) (λ_ b σ1=>σ1=σ) (λb σ1=>σ1=σ) (λb σ1 h=>h) (λx k b σ1 h=>?_) (0,1) rfl) ?_
  ·subst h
   dsimp only
   by_cases c1:b.2 >= hint+1
   ·refine zae.pos c1 ?_
    exact zae.pure (.inl ⟨b,rfl,rfl⟩)
   ·refine zae.neg c1 ?_
    refine zae.bindE (zcs (left:=left) (i:=base+(hint - b.2)) hk hix (by lia)) ?_
    dsimp only
    cases bz c left key ix (base+(hint - b.2))with
    | true=>exact zae.pure (.inl ⟨b,rfl,rfl⟩)
    | false=>exact zae.pure (.inr ⟨(b.2,2 * b.2+1),rfl,rfl⟩)
  ·rintro r σ1 ⟨b0,h1,rfl⟩
   rw[h1]
   dsimp only
   refine zae.bind (zae.loop (λ_ (b:Nat×Nat)=>((none,b.1,b.2):Option (Option Nat)×Nat×Nat)) (λ_ b σ1=>σ1=σ/\b.2<=m) (λb σ1=>σ1=σ/\b.2<=m) (λb σ1 h=>h) (λx k b σ1 h=>?_) (_,_) ⟨rfl,by simp; lia⟩) ?_
   ·obtain⟨rfl,hm⟩:=h
    dsimp only
    by_cases c1:b.1 >= b.2
    ·refine zae.pos c1 ?_
     exact zae.pure (.inl ⟨b,⟨rfl,hm⟩,rfl⟩)
    ·refine zae.neg c1 ?_
     refine zae.bindE (zcs (left:=left) (i:=base+(b.1+(b.2 - b.1) / 2)) hk hix (by lia)) ?_
     dsimp only
     cases bz c left key ix (base+(b.1+(b.2 - b.1) / 2))with
     | true=>exact zae.pure (.inr ⟨(b.1+(b.2 - b.1) / 2+1,b.2),⟨rfl,hm⟩,rfl⟩)
     | false=>exact zae.pure (.inr ⟨(b.1,b.1+(b.2 - b.1) / 2),⟨rfl,by simp; lia⟩,rfl⟩)
   ·rintro r σ2 ⟨b,⟨rfl,hm⟩,rfl⟩
    exact zae.pure ⟨rfl,b.2,hm,rfl⟩
section
variable {n:Nat}{c:Cq}{α β:Type}{σ σ' σ'':Ab}
theorem zfw{B:Type}(cb:Array Keyed->B->β){f:Array Keyed->Nat->β->StateT SortSt Sem (ForInStep β)}(e:Nat)(I:Nat->B->Ab->Prop)(P:B->Ab->Prop)(h1:∀ x b σ,e<=x->I x b σ->P b σ)
  (h2:∀ x b σ,x < e->I x b σ->zae n c (λit=>f it x (cb it b)) σ λr σ'=>(∃ b',P b' σ'/\r=λit=>.done (cb it b'))∨(∃ b',I (x+1) b' σ'/\r=λit=>.yield (cb it b'))) :
  ∀ (k x:Nat) (b:B) (σ:Ab),e - x=k->I x b σ->∃ b' σ',P b' σ'/\zaJ n c (λit=>forIn (List.range' x k) (cb it b) (f it)) σ (λit=>cb it b') σ'
 | 0,x,b,σ,hk,i=>⟨b,σ,h1 x b σ (by lia) i,λprog w A E it s Q hn ha q=>kasC_nil q⟩
 | k+1,x,b,σ,hk,i=>by
  obtain⟨r,σ',h,d⟩:=h2 x b σ (by lia) i
  rcases h with ⟨b',p,rfl⟩ | ⟨b',p,rfl⟩
  ·exact⟨b',σ',p,λprog w A E it s Q hn ha q=>by rw[List.range'_succ]; exact kasC_cons (d prog w A E it s _ hn ha q)⟩
  ·obtain⟨b2,σ2,p2,d2⟩:=zfw cb e I P h1 h2 k (x+1) b' σ' (by lia) p
   exact⟨b2,σ2,p2,λprog w A E it s Q hn ha q=>by rw[List.range'_succ]; exact kasC_cons (d prog w A E it s _ hn ha (d2 prog w A E it s Q hn ha q))⟩
theorem zae.loopX{B:Type}(cb:Array Keyed->B->β){f:Array Keyed->Nat->β->StateT SortSt Sem (ForInStep β)}{a e:Nat}(I:Nat->B->Ab->Prop)(P:B->Ab->Prop)(h1:∀ x b σ,e<=x->I x b σ->P b σ)
  (h2:∀ x b σ,x < e->I x b σ->zae n c (λit=>f it x (cb it b)) σ λr σ'=>(∃ b',P b' σ'/\r=λit=>.done (cb it b'))∨(∃ b',I (x+1) b' σ'/\r=λit=>.yield (cb it b')))
  (b:B) (hI:I a b σ):zae n c (λit=>forIn [a:e] (cb it b) (f it)) σ λr σ'=>∃ b',P b' σ'/\r=λit=>cb it b':=by
 obtain⟨b',σ',p,d⟩:=zfw cb e I P h1 h2 (e - a) a b σ rfl hI
 exact⟨_,σ',⟨b',p,rfl⟩,λprog w A E it s Q hn ha q=>kasC_range (d prog w A E it s Q hn ha q)⟩
structure PI(n:Nat)(σ:Ab):Prop where
 sz:σ.p.size=n
 lt:∀ i,i < n->σ.p.getD i 0 < n
structure Lk(n:Nat)(σ σ':Ab):Prop where
 k:PI n σ'
 pe:σ'.pend=σ.pend
 mg:σ'.mg=σ.mg
theorem Lk.trans(a:Lk n σ σ')(b:Lk n σ' σ''):Lk n σ σ'':=⟨b.k,b.pe.trans a.pe,b.mg.trans a.mg⟩
theorem swap_ok{p:Array Nat}{i j:Nat}(h:∀ x∈p,x < n):∀ x∈p.swapIfInBounds i j,x < n:=by
 intro x hx
 unfold Array.swapIfInBounds at hx
 split at hx
 ·split at hx
  ·have:=(Array.swap_perm (xs:=p) (i:=i) (j:=j) (by assumption) (by assumption)).mem_iff.mp hx
   exact h x this
  ·exact h x hx
 ·exact h x hx
theorem zgQ(u v:Nat->Nat):∀ (l:List Nat) (p:Array Nat),(∀ x∈p,x < n)->(∀ x∈l.foldl (λa k=>a.swapIfInBounds (u k) (v k)) p,x < n)/\(l.foldl (λa k=>a.swapIfInBounds (u k) (v k)) p).size=p.size
 | [],p,h=>⟨h,rfl⟩
 | k::l,p,h=>by
  obtain⟨a,b⟩:=zgQ u v l (p.swapIfInBounds (u k) (v k)) (swap_ok h)
  exact⟨a,by rw[List.foldl_cons,b]; simp⟩
theorem PI.all(h:PI n σ):∀ x∈σ.p,x < n:=λx hx=>by
 obtain⟨i,hi,rfl⟩:=Array.mem_iff_getElem.mp hx
 have:=h.lt i (by rw[<- h.sz]; exact hi)
 simpa [Array.getD,hi] using this
theorem PI.of{p:Array Nat}(hs:p.size=n)(h:∀ x∈p,x < n){pe:Array (Nat×Nat×Nat)}{mg:Nat}:PI n ⟨p,pe,mg⟩:=⟨hs,λi hi=>by
 have hi':i < p.size:=by lia
 have:p.getD i 0=p[i]:=by simp[Array.getD,hi']
 show p.getD i 0 < n
 rw[this]; exact h _ (Array.getElem_mem hi')⟩
theorem rev_does{i j:Nat}:zaJ n c (λ_=>reverseSlice' i j) σ (λ_=>()) ⟨kas_rev σ.p i j,σ.pend,σ.mg⟩:=λprog w A E it s Q hn ha q=>by
 dsimp only
 rw[reverseSlice'_eq]
 refine kasC_modify ?_
 have e1:mirror (σ.p.map (kas_item it)) i j ((j - i) / 2)=(mirror σ.p i j ((j - i) / 2)).map (kas_item it):=kas_swaps_map (kas_item it) (λk=>i+k) (λk=>j - 1 - k) _ σ.p
 have e:setArr (con c.k it σ) (mirror (arrOf (con c.k it σ)) i j ((j - i) / 2))=con c.k it ⟨kas_rev σ.p i j,σ.pend,σ.mg⟩:=by
  show SortSt.mk' c.k (mirror (σ.p.map (kas_item it)) i j ((j - i) / 2)) σ.pend σ.mg none=SortSt.mk' c.k ((mirror σ.p i j ((j - i) / 2)).map (kas_item it)) σ.pend σ.mg none
  rw[e1]
 rw[e]
 exact q
theorem zci{i j:Nat}(h:PI n σ):zae n c (λ_=>reverseSlice' i j) σ λr σ'=>Lk n σ σ'/\r=λ_=>():=by
 obtain⟨a,b⟩:=zgQ (λk=>i+k) (λk=>j - 1 - k) (List.range ((j - i) / 2)) σ.p h.all
 exact⟨_,_,⟨⟨PI.of (b.trans h.sz) a,rfl,rfl⟩,rfl⟩,rev_does⟩
theorem move_does{i j:Nat}:zaJ n c (λ_=>moveDown' i j) σ (λ_=>()) ⟨bubble σ.p i (i - j),σ.pend,σ.mg⟩:=λprog w A E it s Q hn ha q=>by
 dsimp only
 rw[moveDown'_eq]
 refine kasC_modify ?_
 have e1:bubble (σ.p.map (kas_item it)) i (i - j)=(bubble σ.p i (i - j)).map (kas_item it):=kas_swaps_map (kas_item it) (λk=>i - k) (λk=>i - k - 1) _ σ.p
 have e:setArr (con c.k it σ) (bubble (arrOf (con c.k it σ)) i (i - j))=con c.k it ⟨bubble σ.p i (i - j),σ.pend,σ.mg⟩:=by
  show SortSt.mk' c.k (bubble (σ.p.map (kas_item it)) i (i - j)) σ.pend σ.mg none=SortSt.mk' c.k ((bubble σ.p i (i - j)).map (kas_item it)) σ.pend σ.mg none
  rw[e1]
 rw[e]
 exact q
theorem move_gets{i j:Nat}(h:PI n σ):zae n c (λ_=>moveDown' i j) σ λr σ'=>Lk n σ σ'/\r=λ_=>():=by
 obtain⟨a,b⟩:=zgQ (λk=>i - k) (λk=>i - k - 1) (List.range (i - j)) σ.p h.all
 exact⟨_,_,⟨⟨PI.of (b.trans h.sz) a,rfl,rfl⟩,rfl⟩,move_does⟩
theorem za5{i j:Nat}(h:PI n σ)(hi:i < n)(hj:j < n):zaJ n c (λ_=>ltAt' i j) σ (λ_=>some (c (σ.p.getD i 0) (σ.p.getD j 0))) σ:=λprog w A E it s Q hn ha q=>by
 dsimp only
 rw[ltAt'_eq]
 refine kasC_bind (kasC_get ?_)
 have d1:zaJ n c (λit=>elem' (σ.p.map (kas_item it)) i >>= λx=>elem' (σ.p.map (kas_item it)) j >>= λy=>lt' x y) σ (λ_=>some (c (σ.p.getD i 0) (σ.p.getD j 0))) σ :=
  zaJ.bind (zaJ.elem (by rw[h.sz]; exact hi)) (zaJ.bind (zaJ.elem (by rw[h.sz]; exact hj)) (zaJ.lt (h.lt i hi) (h.lt j hj)))
 exact d1 prog w A E it s Q hn ha q
theorem zcu{x:String}{f:Array Keyed->StateT SortSt Sem β}{P:(Array Keyed->β)->Ab->Prop}(h:zae n c f σ P):zae n c (λit=>(liftM (PySem.rule x):StateT SortSt Sem Unit) >>= λ_=>f it) σ P :=
 let ⟨r,σ1,p,d⟩:=h; ⟨r,σ1,p,d.rule⟩
theorem Lk.refl(h:PI n σ):Lk n σ σ:=⟨h,rfl,rfl⟩
end
noncomputable def countRun':Nat->Nat->StateT SortSt Sem (Option Nat):=sortPriv% PySem.Builtin.countRun
section
variable {n:Nat}{c:Cq}{σ:Ab}
theorem count_gets(lo nrem:Nat)(h:PI n σ)(h1:1<=nrem)(hb:lo+nrem<=n):zae n c (λ_=>countRun' lo nrem) σ λr σ'=>Lk n σ σ'/\∃ k,1<=k/\k<=nrem/\r=λ_=>some k:=by
 refine zae.bind (zae.loop (λ_ (b:Nat)=>((none,b):Option (Option Nat)×Nat)) (λk b σ1=>σ1=σ/\1<=b/\b+k<=nrem) (λb σ1=>σ1=σ/\1<=b/\b<=nrem) (λb σ1 h=>h) (λx k b σ1 hI=>?_) 1 ⟨rfl,nLr _,by lia⟩) ?_
 ·obtain⟨e1,hb1,hb2⟩:=hI
  subst e1
  dsimp only
  refine zae.bindE (za5 h (by lia) (by lia)) ?_
  dsimp only
  cases c (σ1.p.getD (lo+b) 0) (σ1.p.getD (lo+b - 1) 0)with
  | true=>exact zae.pure (.inl ⟨b,⟨rfl,hb1,by lia⟩,rfl⟩)
  | false=>exact zae.pure (.inr ⟨b+1,⟨rfl,by lia,by lia⟩,rfl⟩)
 ·rintro r σ1 ⟨b,⟨e1,hb1,hb2⟩,rfl⟩
  rw[e1]
  dsimp only
  by_cases c0:(b==nrem)=true
  ·refine zae.pos c0 ?_
   exact zae.pure ⟨Lk.refl h,b,hb1,hb2,rfl⟩
  ·refine zae.neg c0 ?_
   have hbn:b < nrem:=by have:b≠nrem:=λe=>c0 (by simp[e]); lia
   by_cases c1:b > 1
   ·refine zae.pos c1 ?_
    refine zae.bindE (za5 h (by lia) (by lia)) ?_
    dsimp only
    cases c (σ.p.getD lo 0) (σ.p.getD (lo+b - 1) 0)with
    | true=>exact zae.pure ⟨Lk.refl h,b,hb1,hb2,rfl⟩
    | false =>
     simp only[Bool.false_eq_true,if_false]
     refine zae.bind (zci h) ?_
     rintro r σ2 ⟨l0,rfl⟩
     refine zcu ?_
     refine zae.bind (zae.loop (λ_ (q:Nat×Nat)=>((none,q.1,q.2):Option (Option Nat)×Nat×Nat)) (λk q τ=>Lk n σ τ/\1<=q.1/\q.1+k<=nrem) (λq τ=>Lk n σ τ/\1<=q.1/\q.1<=nrem) (λq τ h=>h) (λx k q τ hI=>?_) (b+1,0) ⟨l0,by lia,by simp; lia⟩) ?_
     ·obtain⟨l1,hq1,hq2⟩:=hI
      dsimp only
      refine zae.bindE (za5 l1.k (by lia) (by lia)) ?_
      dsimp only
      cases c (τ.p.getD (lo+q.1) 0) (τ.p.getD (lo+q.1 - 1) 0)with
      | true =>
       simp only[if_true]
       by_cases c2:q.2 > 0
       ·refine zae.pos c2 ?_
        refine zae.bind (zci l1.k) ?_
        rintro r τ2 ⟨l2,rfl⟩
        exact zae.pure (.inr ⟨(q.1+1,0),⟨l1.trans l2,by simp,by simp; lia⟩,rfl⟩)
       ·refine zae.neg c2 ?_
        exact zae.pure (.inr ⟨(q.1+1,0),⟨l1,by simp,by simp; lia⟩,rfl⟩)
      | false =>
       simp only[Bool.false_eq_true,if_false]
       refine zae.bindE (za5 l1.k (by lia) (by lia)) ?_
       dsimp only
       cases c (τ.p.getD (lo+q.1 - 1) 0) (τ.p.getD (lo+q.1) 0)with
       | true=>exact zae.pure (.inl ⟨q,⟨l1,hq1,by lia⟩,rfl⟩)
       | false=>exact zae.pure (.inr ⟨(q.1+1,q.2+1),⟨l1,by simp,by simp; lia⟩,rfl⟩)
     ·rintro r τ ⟨q,⟨l1,hq1,hq2⟩,rfl⟩
      dsimp only
      by_cases c2:q.2 > 0
      ·refine zae.pos c2 ?_
       refine zae.bind (zci l1.k) ?_
       rintro r τ2 ⟨l2,rfl⟩
       refine zae.bind (zci l2.k) ?_
       rintro r τ3 ⟨l3,rfl⟩
       have l4:=l1.trans (l2.trans l3)
       refine zae.bind (zae.loop (λ_ (b:Nat)=>((none,b):Option (Option Nat)×Nat)) (λk b τ=>τ=τ3/\1<=b/\b+k<=nrem) (λb τ=>τ=τ3/\1<=b/\b<=nrem) (λb τ h=>h) (λx k b τ hI=>?_) q.1 ⟨rfl,by lia,by lia⟩) ?_
       ·obtain⟨e1,hb1,hb2⟩:=hI
        rw[e1]
        dsimp only
        refine zae.bindE (za5 l4.k (by lia) (by lia)) ?_
        dsimp only
        cases c (τ3.p.getD (lo+b) 0) (τ3.p.getD (lo+b - 1) 0)with
        | true=>exact zae.pure (.inl ⟨b,⟨rfl,hb1,by lia⟩,rfl⟩)
        | false=>exact zae.pure (.inr ⟨b+1,⟨rfl,by lia,by lia⟩,rfl⟩)
       ·rintro r τ ⟨b,⟨e1,hb1,hb2⟩,rfl⟩
        rw[e1]
        exact zae.pure ⟨l4,b,hb1,hb2,rfl⟩
      ·refine zae.neg c2 ?_
       refine zae.bind (zci l1.k) ?_
       rintro r τ3 ⟨l3,rfl⟩
       have l4:=l1.trans l3
       refine zae.bind (zae.loop (λ_ (b:Nat)=>((none,b):Option (Option Nat)×Nat)) (λk b τ=>τ=τ3/\1<=b/\b+k<=nrem) (λb τ=>τ=τ3/\1<=b/\b<=nrem) (λb τ h=>h) (λx k b τ hI=>?_) q.1 ⟨rfl,by lia,by lia⟩) ?_
       ·obtain⟨e1,hb1,hb2⟩:=hI
        rw[e1]
        dsimp only
        refine zae.bindE (za5 l4.k (by lia) (by lia)) ?_
        dsimp only
        cases c (τ3.p.getD (lo+b) 0) (τ3.p.getD (lo+b - 1) 0)with
        | true=>exact zae.pure (.inl ⟨b,⟨rfl,hb1,by lia⟩,rfl⟩)
        | false=>exact zae.pure (.inr ⟨b+1,⟨rfl,by lia,by lia⟩,rfl⟩)
       ·rintro r τ ⟨b,⟨e1,hb1,hb2⟩,rfl⟩
        rw[e1]
        exact zae.pure ⟨l4,b,hb1,hb2,rfl⟩
   ·refine zae.neg c1 ?_
    refine zcu ?_
    refine zae.bind (zae.loop (λ_ (q:Nat×Nat)=>((none,q.1,q.2):Option (Option Nat)×Nat×Nat)) (λk q τ=>Lk n σ τ/\1<=q.1/\q.1+k<=nrem) (λq τ=>Lk n σ τ/\1<=q.1/\q.1<=nrem) (λq τ h=>h) (λx k q τ hI=>?_) (b+1,0) ⟨Lk.refl h,by lia,by simp; lia⟩) ?_
    ·obtain⟨l1,hq1,hq2⟩:=hI
     dsimp only
     refine zae.bindE (za5 l1.k (by lia) (by lia)) ?_
     dsimp only
     cases c (τ.p.getD (lo+q.1) 0) (τ.p.getD (lo+q.1 - 1) 0)with
     | true =>
      simp only[if_true]
      by_cases c2:q.2 > 0
      ·refine zae.pos c2 ?_
       refine zae.bind (zci l1.k) ?_
       rintro r τ2 ⟨l2,rfl⟩
       exact zae.pure (.inr ⟨(q.1+1,0),⟨l1.trans l2,by simp,by simp; lia⟩,rfl⟩)
      ·refine zae.neg c2 ?_
       exact zae.pure (.inr ⟨(q.1+1,0),⟨l1,by simp,by simp; lia⟩,rfl⟩)
     | false =>
      simp only[Bool.false_eq_true,if_false]
      refine zae.bindE (za5 l1.k (by lia) (by lia)) ?_
      dsimp only
      cases c (τ.p.getD (lo+q.1 - 1) 0) (τ.p.getD (lo+q.1) 0)with
      | true=>exact zae.pure (.inl ⟨q,⟨l1,hq1,by lia⟩,rfl⟩)
      | false=>exact zae.pure (.inr ⟨(q.1+1,q.2+1),⟨l1,by simp,by simp; lia⟩,rfl⟩)
    ·rintro r τ ⟨q,⟨l1,hq1,hq2⟩,rfl⟩
     dsimp only
     by_cases c2:q.2 > 0
     ·refine zae.pos c2 ?_
      refine zae.bind (zci l1.k) ?_
      rintro r τ2 ⟨l2,rfl⟩
      refine zae.bind (zci l2.k) ?_
      rintro r τ3 ⟨l3,rfl⟩
      have l4:=l1.trans (l2.trans l3)
      refine zae.bind (zae.loop (λ_ (b:Nat)=>((none,b):Option (Option Nat)×Nat)) (λk b τ=>τ=τ3/\1<=b/\b+k<=nrem) (λb τ=>τ=τ3/\1<=b/\b<=nrem) (λb τ h=>h) (λx k b τ hI=>?_) q.1 ⟨rfl,by lia,by lia⟩) ?_
      ·obtain⟨e1,hb1,hb2⟩:=hI
       rw[e1]
       dsimp only
       refine zae.bindE (za5 l4.k (by lia) (by lia)) ?_
       dsimp only
       cases c (τ3.p.getD (lo+b) 0) (τ3.p.getD (lo+b - 1) 0)with
       | true=>exact zae.pure (.inl ⟨b,⟨rfl,hb1,by lia⟩,rfl⟩)
       | false=>exact zae.pure (.inr ⟨b+1,⟨rfl,by lia,by lia⟩,rfl⟩)
      ·rintro r τ ⟨b,⟨e1,hb1,hb2⟩,rfl⟩
       rw[e1]
       exact zae.pure ⟨l4,b,hb1,hb2,rfl⟩
     ·refine zae.neg c2 ?_
      refine zae.bind (zci l1.k) ?_
      rintro r τ3 ⟨l3,rfl⟩
      have l4:=l1.trans l3
      refine zae.bind (zae.loop (λ_ (b:Nat)=>((none,b):Option (Option Nat)×Nat)) (λk b τ=>τ=τ3/\1<=b/\b+k<=nrem) (λb τ=>τ=τ3/\1<=b/\b<=nrem) (λb τ h=>h) (λx k b τ hI=>?_) q.1 ⟨rfl,by lia,by lia⟩) ?_
      ·obtain⟨e1,hb1,hb2⟩:=hI
       rw[e1]
       dsimp only
       refine zae.bindE (za5 l4.k (by lia) (by lia)) ?_
       dsimp only
       cases c (τ3.p.getD (lo+b) 0) (τ3.p.getD (lo+b - 1) 0)with
       | true=>exact zae.pure (.inl ⟨b,⟨rfl,hb1,by lia⟩,rfl⟩)
       | false=>exact zae.pure (.inr ⟨b+1,⟨rfl,by lia,by lia⟩,rfl⟩)
      ·rintro r τ ⟨b,⟨e1,hb1,hb2⟩,rfl⟩
       rw[e1]
       exact zae.pure ⟨l4,b,hb1,hb2,rfl⟩
end
noncomputable def zja:Nat->Nat->Nat->StateT SortSt Sem Bool:=sortPriv% PySem.Builtin.binarySort
noncomputable def mergeLo':Array Keyed->Array Keyed->StateT SortSt Sem (Array Keyed):=sortPriv% PySem.Builtin.mergeLo
noncomputable def mergeHi':Array Keyed->Array Keyed->StateT SortSt Sem (Array Keyed):=sortPriv% PySem.Builtin.mergeHi
noncomputable def zgT:Nat->StateT SortSt Sem Unit:=sortPriv% PySem.Builtin.setMinGallop
noncomputable def IxA(n:Nat)(f:Array Keyed->Array Keyed):Prop:=∃ o:Array Nat,(∀ x∈o,x < n)/\∀ it,f it=o.map (kas_item it)
section
variable {n:Nat}{c:Cq}{σ:Ab}{f g:Array Keyed->Array Keyed}
theorem IxA.of{a:Array Nat}(h:∀ x∈a,x < n):IxA n λit=>a.map (kas_item it):=⟨a,h,λ_=>rfl⟩
theorem IxA.one{i:Nat}(h:i < n):IxA n λit=>#[kas_item it i]:=⟨#[i],by simpa using h,λ_=>by simp⟩
theorem IxA.push{i:Nat}(a:IxA n f)(h:i < n):IxA n λit=>(f it).push (kas_item it i):=by
 obtain⟨o,ho,e⟩:=a
 refine⟨o.push i,λx hx=>?_,λit=>by simp[e]⟩
 rcases Array.mem_push.mp hx with hx | rfl
 ·exact ho x hx
 ·exact h
theorem IxA.app(a:IxA n f)(b:IxA n g):IxA n λit=>f it++g it:=by
 obtain⟨o,ho,e⟩:=a
 obtain⟨q,hq,e2⟩:=b
 exact⟨o++q,λx hx=>(Array.mem_append.mp hx).elim (ho x) (hq x),λit=>by simp[e,e2]⟩
theorem IxA.ext{i j:Nat}(a:IxA n f):IxA n λit=>(f it).extract i j:=by
 obtain⟨o,ho,e⟩:=a
 refine⟨o.extract i j,λx hx=>?_,λit=>by simp[e]⟩
 have:=Array.mem_toList_iff.mpr hx
 rw[Array.toList_extract,List.extract_eq_take_drop]at this
 exact ho x (Array.mem_toList_iff.mp (List.mem_of_mem_drop (List.mem_of_mem_take this)))
theorem IxA.rev(a:IxA n f):IxA n λit=>(f it).reverse:=by
 obtain⟨o,ho,e⟩:=a
 exact⟨o.reverse,λx hx=>ho x (by simpa using hx),λit=>by simp[e]⟩
theorem zaP{a:Array Nat}(h:∀ x∈a,x < n){i:Nat}(hi:i < a.size):a.getD i 0 < n:=by
 have:a.getD i 0=a[i]:=by simp[Array.getD,hi]
 rw[this]; exact h _ (Array.getElem_mem hi)
theorem zed{g:Nat}:zaJ n c (λ_=>zgT g) σ (λ_=>()) ⟨σ.p,σ.pend,g⟩:=λprog w A E it s Q hn ha q=>by
 exact kasC_modify q
theorem bin_gets(lo m ok:Nat)(h:PI n σ)(hb:lo+m<=n):zae n c (λ_=>zja lo m ok) σ λr σ'=>Lk n σ σ'/\r=λ_=>true:=by
 refine zae.bind (zae.loopX (λ_ (b:Unit)=>((none,()):Option Bool×Unit)) (λx b τ=>Lk n σ τ) (λb τ=>Lk n σ τ) (λx b τ _ h=>h) (λx b τ hx l1=>?_) () (Lk.refl h)) ?_
 ·dsimp only
  refine zae.bind (zae.loop (λ_ (b:Nat×Nat)=>((none,b.1,b.2):Option Bool×Nat×Nat)) (λk b τ2=>τ2=τ/\b.2<=x) (λb τ2=>τ2=τ) (λb τ2 h=>h.1) (λy k b τ2 hI=>?_) (0,x) ⟨rfl,nLr _⟩) ?_
  ·obtain⟨e1,hb2⟩:=hI
   rw[e1]
   dsimp only
   by_cases c1:b.1 >= b.2
   ·simp only[c1,if_true]
    exact zae.pure (.inl ⟨b,rfl,rfl⟩)
   ·simp only[c1,if_false]
    refine zae.bindE (za5 l1.k (by lia) (by lia)) ?_
    dsimp only
    cases c (τ.p.getD (lo+x) 0) (τ.p.getD (lo+(b.1+b.2) / 2) 0)with
    | true=>exact zae.pure (.inr ⟨(b.1,(b.1+b.2) / 2),⟨rfl,by simp; lia⟩,rfl⟩)
    | false=>exact zae.pure (.inr ⟨((b.1+b.2) / 2+1,b.2),⟨rfl,hb2⟩,rfl⟩)
  ·rintro r τ2 ⟨b,e1,rfl⟩
   rw[e1]
   dsimp only
   refine zae.bind (move_gets l1.k) ?_
   rintro r τ3 ⟨l3,rfl⟩
   exact zae.pure (.inr ⟨(),l1.trans l3,rfl⟩)
 ·rintro r τ ⟨b,l1,rfl⟩
  exact zae.pure ⟨l1,rfl⟩
local macro_rules | `(tactic| walk_at "ixa") => `(tactic| ((try dsimp only); repeat (first | with_reducible assumption | with_reducible refine IxA.app ?_ ?_ | with_reducible refine IxA.ext ?_ | with_reducible refine IxA.rev ?_ | with_reducible refine IxA.push ?_ ?_ | (with_reducible refine zaP (by assumption) ?_; lia) | refine IxA.push ?_ ?_)))
theorem zae.ite2{n:Nat}{c:Cq}{σ:Ab}{β:Type}{Q:(Array Keyed->β)->Ab->Prop}{p:Nat->Prop}{ip:∀ y,Array Keyed->Decidable (p y)}{A:Array Keyed->Nat->StateT SortSt Sem β}{B:Nat->Array Keyed->StateT SortSt Sem β}(x:Nat->Nat)(hB:∀ y it,B y it=A it (x y))(h:∀ q,zae n c (λit=>A it q) σ Q) :
  ∀ y,zae n c (λit=>@ite _ (p y) (ip y it) (B y it) (A it y)) σ Q:=λy=>by
 by_cases z:p y
 ·simp only[z,if_true,hB]
  exact h (x y)
 ·simp only[z,if_false]
  exact h y
theorem zae.cong{n:Nat}{c:Cq}{σ:Ab}{β:Type}{Q:(Array Keyed->β)->Ab->Prop}{A B:Array Keyed->StateT SortSt Sem β}(e:∀ it,A it=B it)(h:zae n c B σ Q):zae n c A σ Q:=by
 rw[funext e]
 exact h
theorem zae.both{n:Nat}{c:Cq}{σ:Ab}{β O:Type}{Q:(Array Keyed->β)->Ab->Prop}{p:Prop}{R R':O->Nat->Prop}{ip:O->Nat->Array Keyed->Decidable p}{A B:O->Nat->Array Keyed->StateT SortSt Sem β}(hR:∀ o q,R' o q->R o q)
  (k:(∀ o q,R o q->zae n c (A o q) σ Q)->∀ o q,R' o q->p->zae n c (B o q) σ Q) (h:∀ o q,R o q->zae n c (A o q) σ Q):∀ o q,R' o q->zae n c (λit=>@ite _ p (ip o q it) (B o q it) (A o q it)) σ Q:=λo q r=>by
 by_cases z:p
 ·simp only[z,if_true]
  exact k h o q r z
 ·simp only[z,if_false]
  exact h o q (hR o q r)
structure Ro(n:Nat)(a:Array Nat)(j m:Nat)(o:Array Keyed->Array Keyed)(q:Nat):Prop where
 x:IxA n o
 s:∀ it,(o it).size=q+j
 a:q+1 < a.size
 m:m<=q+j
structure Rp(n:Nat)(b:Array Nat)(q m:Nat)(o:Array Keyed->Array Keyed)(j:Nat):Prop where
 x:IxA n o
 s:∀ it,(o it).size=q+j
 b:j < b.size
 m:m<=q+j
structure Mg(n:Nat)(a b:Array Nat)(out:Array Keyed->Array Keyed)(ia ib:Nat):Prop where
 x:IxA n out
 s:∀ it,(out it).size=ia+ib
 a:ia+1 < a.size
 b:ib < b.size
noncomputable def Rs(n k:Nat)(f:Array Keyed->Array Keyed):Prop:=IxA n f/\∀ it,(f it).size=k
noncomputable def KS(σ σ':Ab):Prop:=σ'.p=σ.p/\σ'.pend=σ.pend
theorem lo_gets(a b:Array Nat)(ha:∀ x∈a,x < n)(hb:∀ x∈b,x < n)(a0:0 < a.size)(b0:0 < b.size):zae n c (λit=>mergeLo' (a.map (kas_item it)) (b.map (kas_item it))) σ λr σ'=>KS σ σ'/\Rs n (a.size+b.size) r:=by
 have fa:IxA n λit=>a.map (kas_item it):=IxA.of ha
 have fb:IxA n λit=>b.map (kas_item it):=IxA.of hb
 refine zcu ?_
 refine zae.bindE (zaJ.elem b0) ?_
 have f0:IxA n λit=>#[kas_item it (b.getD 0 0)]:=IxA.one (zaP hb b0)
 refine' zae.cong (λit=>by rw[Array.size_map,Array.size_map]) ?_
 by_cases c1:(1==b.size)=true
 ·refine zae.pos c1 ?_
  refine zae.pure ⟨⟨rfl,rfl⟩,?_,λit=>?_⟩
  ·exact(f0.app fa.ext).app fb.ext
  ·simp at c1; simp; lia
 ·refine zae.neg c1 ?_
  by_cases c2:(0+1==a.size)=true
  ·refine zae.pos c2 ?_
   refine zae.pure ⟨⟨rfl,rfl⟩,?_,λit=>?_⟩
   ·exact(f0.app fb.ext).app fa.ext
   ·simp at c2; simp; lia
  ·refine zae.neg c2 ?_
   simp at c1 c2
   try simp only[Bool.false_eq_true,if_false]
   refine zae.bindE zaJ.get ?_
   dsimp only [con]
   refine zae.bind (zae.loop (λit (q:Option (Array Keyed->Array Keyed)×(Array Keyed->Array Keyed)×Nat×Nat×Nat)=>((q.1.map (· it),q.2.1 it,q.2.2.1,q.2.2.2.1,q.2.2.2.2):Option (Array Keyed)×Array Keyed×Nat×Nat×Nat))
    (λk q τ=>KS σ τ/\q.1=none/\Mg n a b q.2.1 q.2.2.1 q.2.2.2.1/\a.size+b.size+1<=q.2.2.1+q.2.2.2.1+k) (λq τ=>KS σ τ/\∃ f,q.1=some f/\Rs n (a.size+b.size) f) (λq τ h=>by have:=h.2.2.1.a; have:=h.2.2.1.b; have:=h.2.2.2; lia) (λx k q τ hI=>?_) (none,(λit=>#[kas_item it (b.getD 0 0)]),0,1,σ.mg) ⟨⟨rfl,rfl⟩,rfl,⟨f0,λit=>by simp,(show 0+1 < a.size by lia),(show 1 < b.size by lia)⟩,by simp; lia⟩) ?_
   ·obtain⟨ro,out,ia,ib,mg⟩:=q
    obtain⟨ks,e0,M,hp⟩:=hI
    dsimp only at e0 M hp ⊢
    subst e0
    refine zae.bind (zae.loop (λit (q:Option (Array Keyed->Array Keyed)×(Array Keyed->Array Keyed)×Nat×Nat×Nat×Nat)=>((q.1.map (· it),q.2.1 it,q.2.2.1,q.2.2.2.1,q.2.2.2.2.1,q.2.2.2.2.2):Option (Array Keyed)×Array Keyed×Nat×Nat×Nat×Nat))
     (λk' q τ2=>KS σ τ2/\q.1=none/\Mg n a b q.2.1 q.2.2.1 q.2.2.2.1/\ia+ib<=q.2.2.1+q.2.2.2.1/\q.2.2.1+q.2.2.2.1+k'=ia+ib+(a.size+b.size)) (λq τ2=>KS σ τ2/\((∃ f,q.1=some f/\Rs n (a.size+b.size) f)∨(q.1=none/\Mg n a b q.2.1 q.2.2.1 q.2.2.2.1/\ia+ib+1<=q.2.2.1+q.2.2.2.1))) (λq τ2 h=>by have:=h.2.2.1.a; have:=h.2.2.1.b; have:=h.2.2.2; lia) (λy k' q τ2 hI=>?_) (none,out,ia,ib,0,0) ⟨ks,rfl,M,Nat.le_refl _,by simp⟩) ?_
    ·obtain⟨ro,out2,ja,jb,ac,bc⟩:=q
     obtain⟨ks2,e0,M2,hge,hp2⟩:=hI
     dsimp only at e0 M2 hge hp2 ⊢
     subst e0
     have sz:=M2.s
     have mx:=M2.x
     have hja:=M2.a
     have hjb:=M2.b
     refine zae.bindE (zaJ.elem hjb) ?_
     refine zae.bindE (zaJ.elem (show ja < a.size by lia)) ?_
     refine zae.bindE (zaJ.lt (zaP hb hjb) (zaP ha (by lia))) ?_
     dsimp only
     cases c (b.getD jb 0) (a.getD ja 0)with
     | true =>
      simp only[if_true]
      refine zae.bindE (zaJ.elem hjb) ?_
      have fo:IxA n λit=>(out2 it).push (kas_item it (b.getD jb 0)):=by walk_at "ixa"
      by_cases c3:(jb+1==b.size)=true
      ·refine zae.pos c3 ?_
       exact zae.pure (.inl ⟨(some (λit=>_),(λit=>_),_,_,_,_),⟨ks2,.inl ⟨_,rfl,by walk_at "ixa",λit=>by simp[sz]; lia⟩⟩,rfl⟩)
      ·refine zae.neg c3 ?_
       simp at c3
       by_cases c4:bc+1 >= mg
       ·refine zae.pos c4 ?_
        exact zae.pure (.inl ⟨(none,(λit=>_),_,_,_,_),⟨ks2,.inr ⟨rfl,⟨fo,λit=>by simp[sz]; lia,hja,(show jb+1 < b.size by lia)⟩,(show ia+ib+1<=ja+(jb+1)by lia)⟩⟩,rfl⟩)
       ·refine zae.neg c4 ?_
        exact zae.pure (.inr ⟨(none,(λit=>_),_,_,_,_),⟨ks2,rfl,⟨fo,λit=>by simp[sz]; lia,hja,(show jb+1 < b.size by lia)⟩,(show ia+ib<=ja+(jb+1)by lia),(show ja+(jb+1)+k'=ia+ib+(a.size+b.size)by lia)⟩,rfl⟩)
     | false =>
      simp only[Bool.false_eq_true,if_false]
      refine zae.bindE (zaJ.elem (show ja < a.size by lia)) ?_
      have fo:IxA n λit=>(out2 it).push (kas_item it (a.getD ja 0)):=by walk_at "ixa"
      by_cases c3:(ja+1+1==a.size)=true
      ·refine zae.pos c3 ?_
       exact zae.pure (.inl ⟨(some (λit=>_),(λit=>_),_,_,_,_),⟨ks2,.inl ⟨_,rfl,by walk_at "ixa",λit=>by simp[sz]; lia⟩⟩,rfl⟩)
      ·refine zae.neg c3 ?_
       simp at c3
       by_cases c4:ac+1 >= mg
       ·refine zae.pos c4 ?_
        exact zae.pure (.inl ⟨(none,(λit=>_),_,_,_,_),⟨ks2,.inr ⟨rfl,⟨fo,λit=>by simp[sz]; lia,(show ja+1+1 < a.size by lia),hjb⟩,(show ia+ib+1<=ja+1+jb by lia)⟩⟩,rfl⟩)
       ·refine zae.neg c4 ?_
        exact zae.pure (.inr ⟨(none,(λit=>_),_,_,_,_),⟨ks2,rfl,⟨fo,λit=>by simp[sz]; lia,(show ja+1+1 < a.size by lia),hjb⟩,(show ia+ib<=ja+1+jb by lia),(show ja+1+jb+k'=ia+ib+(a.size+b.size)by lia)⟩,rfl⟩)
    ·rintro r τ2 ⟨q,hq,rfl⟩
     obtain⟨ro,out2,ja,jb,ac,bc⟩:=q
     dsimp only at hq ⊢
     obtain⟨ks2,⟨f,e0,hf⟩ | ⟨e0,M2,hp2⟩⟩:=hq
     ·subst e0
      exact zae.pure (.inl ⟨(some f,out2,_,_,_),⟨ks2,f,rfl,hf⟩,rfl⟩)
     ·subst e0
      dsimp only [Option.map]
      refine zcu ?_
      refine zae.bind (zae.loop (λit (q:Option (Array Keyed->Array Keyed)×(Array Keyed->Array Keyed)×Nat×Nat×Nat×Nat×Nat)=>((q.1.map (· it),q.2.1 it,q.2.2.1,q.2.2.2.1,q.2.2.2.2.1,q.2.2.2.2.2.1,q.2.2.2.2.2.2):Option (Array Keyed)×Array Keyed×Nat×Nat×Nat×Nat×Nat))
       (λ_ q τ4=>KS σ τ4/\q.1=none/\Mg n a b q.2.1 q.2.2.1 q.2.2.2.1/\ia+ib+1<=q.2.2.1+q.2.2.2.1) (λq τ4=>KS σ τ4/\((∃ f,q.1=some f/\Rs n (a.size+b.size) f)∨(q.1=none/\Mg n a b q.2.1 q.2.2.1 q.2.2.2.1/\ia+ib+1<=q.2.2.1+q.2.2.2.1))) (λq τ4 h=>⟨h.1,.inr h.2⟩) (λy k' q τ4 hI=>?_) (none,out2,ja,jb,mg+1,ac,bc) ⟨ks2,rfl,M2,hp2⟩) ?_
      ·obtain⟨ro,out4,qa,qb,gg,ac4,bc4⟩:=q
       obtain⟨ks4,e0,M4,hp4⟩:=hI
       dsimp only at e0 M4 hp4 ⊢
       subst e0
       have sz:=M4.s
       have mx:=M4.x
       have hqa:=M4.a
       have hqb:=M4.b
       have kg:∀ g,KS σ ⟨τ4.p,τ4.pend,g⟩:=λg=>ks4
       revert gg
       refine zae.ite2 (λg=>g - 1) ?_ λgq=>?_
       ·intro g it; rfl
       ·refine zae.bindE zed ?_
        refine zae.bindE (zaJ.elem (show qb < b.size by lia)) ?_
        refine zae.bind (zbJ false (b.getD qb 0) a qa (a.size - qa) 0 (zaP hb (by lia)) (λi hi=>zaP ha hi) (by lia) (by lia)) ?_
        rintro r τ5 ⟨e5,k5,hk5,rfl⟩
        subst e5
        dsimp only
        have r0:Ro n a qb (ia+ib+1) out4 qa/\k5<=a.size - qa:=⟨⟨mx,sz,hqa,hp4⟩,hk5⟩
        clear M4 hp4 sz mx hqa hk5
        revert out4 qa
        refine zae.both (λo q r=>r.1) (λgo o q r d0=>?_) (λo q r=>?_)
        ·obtain⟨⟨mx,sz,hqa,hp4⟩,hk5⟩:=r
         by_cases d1:(q+k5+1==a.size)=true
         ·refine zae.pos d1 ?_
          simp at d1
          exact zae.pure (.inl ⟨(some (λit=>_),(λit=>_),_,_,_,_,_),⟨kg _,.inl ⟨_,rfl,by walk_at "ixa",λit=>by simp[sz]; lia⟩⟩,rfl⟩)
         ·refine zae.neg d1 ?_
          simp at d1
          by_cases d6:(q+k5==a.size)=true
          ·refine zae.pos d6 ?_
           simp at d6
           exact zae.pure (.inl ⟨(some (λit=>_),(λit=>_),_,_,_,_,_),⟨kg _,.inl ⟨_,rfl,by walk_at "ixa",λit=>by simp[sz]; lia⟩⟩,rfl⟩)
          ·refine zae.neg d6 ?_
           simp at d6
           exact go _ _ ⟨by walk_at "ixa",λit=>by simp[sz]; lia,by lia,by lia⟩
        ·obtain⟨mx,sz,hqa,hp4⟩:=r
         refine zae.bindE (zaJ.elem (show qb < b.size by lia)) ?_
         by_cases d2:(qb+1==b.size)=true
         ·refine zae.pos d2 ?_
          simp at d2
          exact zae.pure (.inl ⟨(some (λit=>_),(λit=>_),_,_,_,_,_),⟨kg _,.inl ⟨_,rfl,by walk_at "ixa",λit=>by simp[sz]; lia⟩⟩,rfl⟩)
         ·refine zae.neg d2 ?_
          simp at d2
          refine zae.bindE (zaJ.elem (show q < a.size by lia)) ?_
          refine zae.bind (zbJ true (a.getD q 0) b (qb+1) (b.size - (qb+1)) 0 (zaP ha (by lia)) (λi hi=>zaP hb hi) (by lia) (by lia)) ?_
          rintro r τ6 ⟨e6,k6,hk6,rfl⟩
          subst e6
          dsimp only
          obtain⟨o2,ho⟩:∃ o2:Array Keyed->Array Keyed,∀ it,(o it).push (kas_item it (b.getD qb 0))=o2 it:=⟨_,λ_=>rfl⟩
          simp only[ho]
          have r1:Rp n b q (ia+ib+1) o2 (qb+1)/\k6<=b.size - (qb+1):=⟨⟨by rw[<- funext ho]; walk_at "ixa",λit=>by rw[<- ho]; simp[sz]; lia,by lia,by lia⟩,hk6⟩
          clear ho hk6 d2
          generalize qb+1=jb at r1 ⊢
          clear sz mx hp4 hqb
          revert o2 jb
          refine zae.both (λo q r=>r.1) (λgo o jb r d3=>?_) (λo jb r=>?_)
          ·obtain⟨⟨mx,sz,hqb,hp4⟩,hk6⟩:=r
           by_cases d4:(jb+k6==b.size)=true
           ·refine zae.pos d4 ?_
            simp at d4
            exact zae.pure (.inl ⟨(some (λit=>_),(λit=>_),_,_,_,_,_),⟨kg _,.inl ⟨_,rfl,by walk_at "ixa",λit=>by simp[sz]; lia⟩⟩,rfl⟩)
           ·refine zae.neg d4 ?_
            simp at d4
            exact go _ _ ⟨by walk_at "ixa",λit=>by simp[sz]; lia,by lia,by lia⟩
          ·obtain⟨mx,sz,hqb,hp4⟩:=r
           refine zae.bindE (zaJ.elem (show q < a.size by lia)) ?_
           by_cases d5:(q+1+1==a.size)=true
           ·refine zae.pos d5 ?_
            simp at d5
            exact zae.pure (.inl ⟨(some (λit=>_),(λit=>_),_,_,_,_,_),⟨kg _,.inl ⟨_,rfl,by walk_at "ixa",λit=>by simp[sz]; lia⟩⟩,rfl⟩)
           ·refine zae.neg d5 ?_
            simp at d5
            by_cases d7:(decide (k5 < 7)&&decide (k6 < 7))=true
            ·refine zae.pos d7 ?_
             exact zae.pure (.inl ⟨(none,(λit=>_),_,_,_,_,_),⟨kg _,.inr ⟨rfl,⟨by walk_at "ixa",λit=>by simp[sz]; lia,(show q+1+1 < a.size by lia),hqb⟩,(show ia+ib+1<=q+1+jb by lia)⟩⟩,rfl⟩)
            ·refine zae.neg d7 ?_
             exact zae.pure (.inr ⟨(none,(λit=>_),_,_,_,_,_),⟨kg _,rfl,⟨by walk_at "ixa",λit=>by simp[sz]; lia,(show q+1+1 < a.size by lia),hqb⟩,(show ia+ib+1<=q+1+jb by lia)⟩,rfl⟩)
      ·rintro r τ4 ⟨q,hq,rfl⟩
       obtain⟨ro,out4,qa,qb,gg,ac4,bc4⟩:=q
       dsimp only at hq ⊢
       obtain⟨ks4,⟨f,e0,hf⟩ | ⟨e0,M4,hp4⟩⟩:=hq
       ·subst e0
        exact zae.pure (.inl ⟨(some f,out4,_,_,_),⟨ks4,f,rfl,hf⟩,rfl⟩)
       ·subst e0
        dsimp only [Option.map]
        refine zae.bindE zed ?_
        exact zae.pure (.inr ⟨(none,out4,_,_,_),⟨ks4,rfl,M4,by dsimp only; lia⟩,rfl⟩)
   ·rintro r τ ⟨q,⟨ks,f,e0,hf⟩,rfl⟩
    obtain⟨ro,out,ia,ib,mg⟩:=q
    dsimp only at e0 ⊢
    subst e0
    exact zae.pure ⟨ks,hf⟩
structure Mh(n:Nat)(a b:Array Nat)(out:Array Keyed->Array Keyed)(na nb:Nat):Prop where
 x:IxA n out
 s:∀ it,(out it).size+na+nb=a.size+b.size
 a1:1<=na
 a2:na < a.size
 b1:2<=nb
 b2:nb<=b.size
structure Rq(n:Nat)(a b:Array Nat)(j m:Nat)(o:Array Keyed->Array Keyed)(q:Nat):Prop where
 x:IxA n o
 s:∀ it,(o it).size+(q+1)+j=a.size+b.size
 a:q+1 < a.size
 m:q+1+j+1<=m
structure Rr(n:Nat)(a b:Array Nat)(q m:Nat)(o:Array Keyed->Array Keyed)(j:Nat):Prop where
 x:IxA n o
 s:∀ it,(o it).size+(q+1)+j=a.size+b.size
 g:2<=j
 c:j<=b.size
 m:q+j+1<=m
theorem hi_gets(a b:Array Nat)(ha:∀ x∈a,x < n)(hb:∀ x∈b,x < n)(a0:0 < a.size)(b0:0 < b.size):zae n c (λit=>mergeHi' (a.map (kas_item it)) (b.map (kas_item it))) σ λr σ'=>KS σ σ'/\Rs n (a.size+b.size) r:=by
 have fa:IxA n λit=>a.map (kas_item it):=IxA.of ha
 have fb:IxA n λit=>b.map (kas_item it):=IxA.of hb
 refine zcu ?_
 dsimp only
 refine' zae.cong (λit=>by rw[Array.size_map,Array.size_map]) ?_
 refine zae.bindE (zaJ.elem (show a.size - 1 < a.size by lia)) ?_
 have f0:IxA n λit=>#[kas_item it (a.getD (a.size - 1) 0)]:=IxA.one (zaP ha (by lia))
 by_cases c1:(a.size - 1==0)=true
 ·refine zae.pos c1 ?_
  simp at c1
  exact zae.pure ⟨⟨rfl,rfl⟩,by walk_at "ixa",λit=>by simp; lia⟩
 ·refine zae.neg c1 ?_
  simp at c1
  by_cases c2:(b.size==1)=true
  ·refine zae.pos c2 ?_
   simp at c2
   exact zae.pure ⟨⟨rfl,rfl⟩,by walk_at "ixa",λit=>by simp; lia⟩
  ·refine zae.neg c2 ?_
   simp at c2
   try simp only[Bool.false_eq_true,if_false]
   refine zae.bindE zaJ.get ?_
   dsimp only [con]
   refine zae.bind (zae.loop (λit (q:Option (Array Keyed->Array Keyed)×Nat×Nat×(Array Keyed->Array Keyed)×Nat)=>((q.1.map (· it),q.2.1,q.2.2.1,q.2.2.2.1 it,q.2.2.2.2):Option (Array Keyed)×Nat×Nat×Array Keyed×Nat))
    (λk q τ=>KS σ τ/\q.1=none/\Mh n a b q.2.2.2.1 q.2.1 q.2.2.1/\q.2.1+q.2.2.1<=k+2) (λq τ=>KS σ τ/\∃ f,q.1=some f/\Rs n (a.size+b.size) f) (λq τ h=>by have:=h.2.2.1.a1; have:=h.2.2.1.b1; have:=h.2.2.2; lia) (λx k q τ hI=>?_) (none,a.size - 1,b.size,(λit=>#[kas_item it (a.getD (a.size - 1) 0)]),σ.mg) ⟨⟨rfl,rfl⟩,rfl,⟨f0,λit=>by simp; lia,(show 1<=a.size - 1 by lia),(show a.size - 1 < a.size by lia),(show 2<=b.size by lia),Nat.le_refl _⟩,by simp; lia⟩) ?_
   ·obtain⟨ro,na,nb,out,mg⟩:=q
    obtain⟨ks,e0,M,hp⟩:=hI
    dsimp only at e0 M hp ⊢
    subst e0
    have g2:=M.a2
    have g4:=M.b2
    refine zae.bind (zae.loop (λit (q:Option (Array Keyed->Array Keyed)×Nat×Nat×(Array Keyed->Array Keyed)×Nat×Nat)=>((q.1.map (· it),q.2.1,q.2.2.1,q.2.2.2.1 it,q.2.2.2.2.1,q.2.2.2.2.2):Option (Array Keyed)×Nat×Nat×Array Keyed×Nat×Nat))
     (λk' q τ2=>KS σ τ2/\q.1=none/\Mh n a b q.2.2.2.1 q.2.1 q.2.2.1/\q.2.1+q.2.2.1<=na+nb/\q.2.1+q.2.2.1+(a.size+b.size)=na+nb+k') (λq τ2=>KS σ τ2/\((∃ f,q.1=some f/\Rs n (a.size+b.size) f)∨(q.1=none/\Mh n a b q.2.2.2.1 q.2.1 q.2.2.1/\q.2.1+q.2.2.1+1<=na+nb))) (λq τ2 h=>by have:=h.2.2.1.a1; have:=h.2.2.1.b1; have:=h.2.2.2; lia) (λy k' q τ2 hI=>?_) (none,na,nb,out,0,0) ⟨ks,rfl,M,Nat.le_refl _,by simp⟩) ?_
    ·obtain⟨ro,ja,jb,out2,ac,bc⟩:=q
     obtain⟨ks2,e0,M2,hge,hp2⟩:=hI
     dsimp only at e0 M2 hge hp2 ⊢
     subst e0
     obtain⟨jc,rfl⟩:∃ jc,ja=jc+1:=⟨ja - 1,by have:=M2.a1; lia⟩
     obtain⟨jd,rfl⟩:∃ jd,jb=jd+1:=⟨jb - 1,by have:=M2.b1; lia⟩
     have sz:=M2.s
     have mx:=M2.x
     have h2:=M2.a2
     have h3:=M2.b1
     have h4:=M2.b2
     simp only[Nat.add_sub_cancel]
     clear M hp g2 g4 c1 c2
     refine zae.bindE (zaJ.elem (show jd < b.size by lia)) ?_
     refine zae.bindE (zaJ.elem (show jc < a.size by lia)) ?_
     refine zae.bindE (zaJ.lt (zaP hb (by lia)) (zaP ha (by lia))) ?_
     dsimp only
     cases c (b.getD jd 0) (a.getD jc 0)with
     | true =>
      simp only[if_true]
      refine zae.bindE (zaJ.elem (show jc < a.size by lia)) ?_
      by_cases c3:(jc==0)=true
      ·refine zae.pos c3 ?_
       simp at c3
       exact zae.pure (.inl ⟨(some (λit=>_),_,_,(λit=>_),_,_),⟨ks2,.inl ⟨_,rfl,by walk_at "ixa",λit=>by(have:=sz it; simp (disch:=lia) [Nat.min_eq_left]; lia)⟩⟩,rfl⟩)
      ·refine zae.neg c3 ?_
       simp at c3
       by_cases c4:ac+1 >= mg
       ·refine zae.pos c4 ?_
        exact zae.pure (.inl ⟨(none,_,_,(λit=>_),_,_),⟨ks2,.inr ⟨rfl,⟨by walk_at "ixa",λit=>by(have:=sz it; simp (disch:=lia) [Nat.min_eq_left]; lia),(show 1<=jc by lia),(show jc < a.size by lia),(show 2<=jd+1 by lia),(show jd+1<=b.size by lia)⟩,(show jc+(jd+1)+1<=na+nb by lia)⟩⟩,rfl⟩)
       ·refine zae.neg c4 ?_
        exact zae.pure (.inr ⟨(none,_,_,(λit=>_),_,_),⟨ks2,rfl,⟨by walk_at "ixa",λit=>by(have:=sz it; simp (disch:=lia) [Nat.min_eq_left]; lia),(show 1<=jc by lia),(show jc < a.size by lia),(show 2<=jd+1 by lia),(show jd+1<=b.size by lia)⟩,(show jc+(jd+1)<=na+nb by lia),(show jc+(jd+1)+(a.size+b.size)=na+nb+k' by lia)⟩,rfl⟩)
     | false =>
      simp only[Bool.false_eq_true,if_false]
      refine zae.bindE (zaJ.elem (show jd < b.size by lia)) ?_
      by_cases c3:(jd==1)=true
      ·refine zae.pos c3 ?_
       simp at c3
       exact zae.pure (.inl ⟨(some (λit=>_),_,_,(λit=>_),_,_),⟨ks2,.inl ⟨_,rfl,by walk_at "ixa",λit=>by(have:=sz it; simp (disch:=lia) [Nat.min_eq_left]; lia)⟩⟩,rfl⟩)
      ·refine zae.neg c3 ?_
       simp at c3
       by_cases c4:bc+1 >= mg
       ·refine zae.pos c4 ?_
        exact zae.pure (.inl ⟨(none,_,_,(λit=>_),_,_),⟨ks2,.inr ⟨rfl,⟨by walk_at "ixa",λit=>by(have:=sz it; simp (disch:=lia) [Nat.min_eq_left]; lia),(show 1<=jc+1 by lia),(show jc+1 < a.size by lia),(show 2<=jd by lia),(show jd<=b.size by lia)⟩,(show jc+1+jd+1<=na+nb by lia)⟩⟩,rfl⟩)
       ·refine zae.neg c4 ?_
        exact zae.pure (.inr ⟨(none,_,_,(λit=>_),_,_),⟨ks2,rfl,⟨by walk_at "ixa",λit=>by(have:=sz it; simp (disch:=lia) [Nat.min_eq_left]; lia),(show 1<=jc+1 by lia),(show jc+1 < a.size by lia),(show 2<=jd by lia),(show jd<=b.size by lia)⟩,(show jc+1+jd<=na+nb by lia),(show jc+1+jd+(a.size+b.size)=na+nb+k' by lia)⟩,rfl⟩)
    ·rintro r τ2 ⟨q,hq,rfl⟩
     obtain⟨ro,ja,jb,out2,ac,bc⟩:=q
     dsimp only at hq ⊢
     obtain⟨ks2,⟨f,e0,hf⟩ | ⟨e0,M2,hp2⟩⟩:=hq
     ·subst e0
      exact zae.pure (.inl ⟨(some f,_,_,out2,_),⟨ks2,f,rfl,hf⟩,rfl⟩)
     ·subst e0
      dsimp only [Option.map]
      refine zcu ?_
      refine zae.bind (zae.loop (λit (q:Option (Array Keyed->Array Keyed)×Nat×Nat×(Array Keyed->Array Keyed)×Nat×Nat×Nat)=>((q.1.map (· it),q.2.1,q.2.2.1,q.2.2.2.1 it,q.2.2.2.2.1,q.2.2.2.2.2.1,q.2.2.2.2.2.2):Option (Array Keyed)×Nat×Nat×Array Keyed×Nat×Nat×Nat))
       (λ_ q τ4=>KS σ τ4/\q.1=none/\Mh n a b q.2.2.2.1 q.2.1 q.2.2.1/\q.2.1+q.2.2.1+1<=na+nb) (λq τ4=>KS σ τ4/\((∃ f,q.1=some f/\Rs n (a.size+b.size) f)∨(q.1=none/\Mh n a b q.2.2.2.1 q.2.1 q.2.2.1/\q.2.1+q.2.2.1+1<=na+nb))) (λq τ4 h=>⟨h.1,.inr h.2⟩) (λy k' q τ4 hI=>?_) (none,ja,jb,out2,mg+1,ac,bc) ⟨ks2,rfl,M2,hp2⟩) ?_
      ·obtain⟨ro,qa,qb,out4,gg,ac4,bc4⟩:=q
       obtain⟨ks4,e0,M4,hp4⟩:=hI
       dsimp only at e0 M4 hp4 ⊢
       subst e0
       obtain⟨qd,rfl⟩:∃ qd,qa=qd+1:=⟨qa - 1,by have:=M4.a1; lia⟩
       obtain⟨qc,rfl⟩:∃ qc,qb=qc+1:=⟨qb - 1,by have:=M4.b1; lia⟩
       have sz:=M4.s
       have mx:=M4.x
       have h2:=M4.a2
       have h3:=M4.b1
       have h4:=M4.b2
       have kg:∀ g,KS σ ⟨τ4.p,τ4.pend,g⟩:=λg=>ks4
       clear M M2 hp hp2 g2 g4 c1 c2
       simp only[Nat.add_sub_cancel]
       revert gg
       refine zae.ite2 (λg=>g - 1) ?_ λgq=>?_
       ·intro g it; rfl
       ·refine zae.bindE zed ?_
        refine zae.bindE (zaJ.elem (show qc < b.size by lia)) ?_
        refine zae.bind (zbJ false (b.getD qc 0) a 0 (qd+1) qd (zaP hb (by lia)) (λi hi=>zaP ha hi) (by lia) (by lia)) ?_
        rintro r τ5 ⟨e5,k5,hk5,rfl⟩
        subst e5
        dsimp only
        obtain⟨m5,hm⟩:∃ m5,qd+1 - k5=m5:=⟨_,rfl⟩
        simp only[hm]
        have r0:Rq n a b (qc+1) (na+nb) out4 qd/\k5<=qd+1/\qd+1 - k5=m5:=⟨⟨mx,sz,h2,hp4⟩,hk5,hm⟩
        clear M4 sz mx h2 hp4 hk5 hm
        revert out4 qd
        refine zae.both (λo q r=>r.1) (λgo o q r d0=>?_) (λo q r=>?_)
        ·obtain⟨⟨mx,sz,h2,hp4⟩,hk5,hm⟩:=r
         by_cases d1:(k5==0)=true
         ·refine zae.pos d1 ?_
          simp at d1
          exact zae.pure (.inl ⟨(some (λit=>_),_,_,(λit=>_),_,_,_),⟨kg _,.inl ⟨_,rfl,by walk_at "ixa",λit=>by(have:=sz it; simp (disch:=lia) [Nat.min_eq_left]; lia)⟩⟩,rfl⟩)
         ·refine zae.neg d1 ?_
          simp at d1
          obtain⟨j5,rfl⟩:∃ j5,k5=j5+1:=⟨k5 - 1,by lia⟩
          exact go _ j5 ⟨by walk_at "ixa",λit=>by(have:=sz it; simp (disch:=lia) [Nat.min_eq_left]; lia),by lia,by lia⟩
        ·obtain⟨mx,sz,h2,hp4⟩:=r
         refine zae.bindE (zaJ.elem (show qc < b.size by lia)) ?_
         by_cases d2:(qc==1)=true
         ·refine zae.pos d2 ?_
          simp at d2
          exact zae.pure (.inl ⟨(some (λit=>_),_,_,(λit=>_),_,_,_),⟨kg _,.inl ⟨_,rfl,by walk_at "ixa",λit=>by(have:=sz it; simp (disch:=lia) [Nat.min_eq_left]; lia)⟩⟩,rfl⟩)
         ·refine zae.neg d2 ?_
          simp at d2
          refine zae.bindE (zaJ.elem (show q < a.size by lia)) ?_
          refine zae.bind (zbJ true (a.getD q 0) b 0 qc (qc - 1) (zaP ha (by lia)) (λi hi=>zaP hb hi) (by lia) (by lia)) ?_
          rintro r τ6 ⟨e6,k6,hk6,rfl⟩
          subst e6
          dsimp only
          obtain⟨o2,ho⟩:∃ o2:Array Keyed->Array Keyed,∀ it,(o it).push (kas_item it (b.getD qc 0))=o2 it:=⟨_,λ_=>rfl⟩
          obtain⟨m6,hm⟩:∃ m6,qc - k6=m6:=⟨_,rfl⟩
          simp only[ho,hm]
          have r1:Rr n a b q (na+nb) o2 qc/\k6<=qc/\qc - k6=m6:=⟨⟨by rw[<- funext ho]; walk_at "ixa",λit=>by rw[<- ho]; (have:=sz it; simp (disch:=lia) [Nat.min_eq_left]; lia),by lia,by lia,by lia⟩,hk6,hm⟩
          clear ho hk6 d2 sz mx hp4 h3 h4 hm
          obtain⟨jc,rfl⟩:∃ jc,jc=qc:=⟨_,rfl⟩
          revert o2 jc
          refine zae.both (λo q r=>r.1) (λgo o jb r d3=>?_) (λo jb r=>?_)
          ·obtain⟨⟨mx,sz,h3,h4,hp4⟩,hk6,hm⟩:=r
           by_cases d4:(k6==1)=true
           ·refine zae.pos d4 ?_
            simp at d4
            exact zae.pure (.inl ⟨(some (λit=>_),_,_,(λit=>_),_,_,_),⟨kg _,.inl ⟨_,rfl,by walk_at "ixa",λit=>by(have:=sz it; simp (disch:=lia) [Nat.min_eq_left]; lia)⟩⟩,rfl⟩)
           ·refine zae.neg d4 ?_
            simp at d4
            by_cases d8:(k6==0)=true
            ·refine zae.pos d8 ?_
             simp at d8
             exact zae.pure (.inl ⟨(some (λit=>_),_,_,(λit=>_),_,_,_),⟨kg _,.inl ⟨_,rfl,by walk_at "ixa",λit=>by(have:=sz it; simp (disch:=lia) [Nat.min_eq_left]; lia)⟩⟩,rfl⟩)
            ·refine zae.neg d8 ?_
             simp at d8
             exact go _ _ ⟨by walk_at "ixa",λit=>by(have:=sz it; simp (disch:=lia) [Nat.min_eq_left]; lia),by lia,by lia,by lia⟩
          ·obtain⟨mx,sz,h3,h4,hp4⟩:=r
           refine zae.bindE (zaJ.elem (show q < a.size by lia)) ?_
           by_cases d5:(q==0)=true
           ·refine zae.pos d5 ?_
            simp at d5
            exact zae.pure (.inl ⟨(some (λit=>_),_,_,(λit=>_),_,_,_),⟨kg _,.inl ⟨_,rfl,by walk_at "ixa",λit=>by(have:=sz it; simp (disch:=lia) [Nat.min_eq_left]; lia)⟩⟩,rfl⟩)
           ·refine zae.neg d5 ?_
            simp at d5
            by_cases d7:(decide (m5 < 7)&&decide (m6 < 7))=true
            ·refine zae.pos d7 ?_
             exact zae.pure (.inl ⟨(none,_,_,(λit=>_),_,_,_),⟨kg _,.inr ⟨rfl,⟨by walk_at "ixa",λit=>by(have:=sz it; simp (disch:=lia) [Nat.min_eq_left]; lia),(show 1<=q by lia),(show q < a.size by lia),h3,h4⟩,(show q+jb+1<=na+nb by lia)⟩⟩,rfl⟩)
            ·refine zae.neg d7 ?_
             exact zae.pure (.inr ⟨(none,_,_,(λit=>_),_,_,_),⟨kg _,rfl,⟨by walk_at "ixa",λit=>by(have:=sz it; simp (disch:=lia) [Nat.min_eq_left]; lia),(show 1<=q by lia),(show q < a.size by lia),h3,h4⟩,(show q+jb+1<=na+nb by lia)⟩,rfl⟩)
      ·rintro r τ4 ⟨q,hq,rfl⟩
       obtain⟨ro,qa,qb,out4,gg,ac4,bc4⟩:=q
       dsimp only at hq ⊢
       obtain⟨ks4,⟨f,e0,hf⟩ | ⟨e0,M4,hp4⟩⟩:=hq
       ·subst e0
        exact zae.pure (.inl ⟨(some f,_,_,out4,_),⟨ks4,f,rfl,hf⟩,rfl⟩)
       ·subst e0
        dsimp only [Option.map]
        refine zae.bindE zed ?_
        exact zae.pure (.inr ⟨(none,_,_,out4,_),⟨ks4,rfl,M4,by dsimp only; lia⟩,rfl⟩)
   ·rintro r τ ⟨q,⟨ks,f,e0,hf⟩,rfl⟩
    obtain⟨ro,na,nb,out,mg⟩:=q
    dsimp only at e0 ⊢
    subst e0
    exact zae.pure ⟨ks,hf⟩
end
noncomputable def zjz:Nat->StateT SortSt Sem Bool:=sortPriv% PySem.Builtin.mergeAt
noncomputable def sortRuns':StateT SortSt Sem Unit:=sortPriv% PySem.Builtin.sortRuns
noncomputable def zaO:Nat->List (Nat×Nat×Nat)->Nat->Prop
 | s,[],e=>s=e
 | s,x::r,e=>x.1=s/\1<=x.2.1/\zaO (s+x.2.1) r e
theorem zaO.le:∀ {l:List (Nat×Nat×Nat)} {s e:Nat},zaO s l e->s+l.length<=e
 | [],s,e,h=>by have:s=e:=h; simp[this]
 | x::r,s,e,⟨_,h2,h3⟩=>by have:=h3.le; simp; lia
theorem zaO.split:∀ {l r:List (Nat×Nat×Nat)} {s e:Nat},zaO s (l++r) e↔∃ m,zaO s l m/\zaO m r e
 | [],r,s,e=>⟨λh=>⟨s,rfl,h⟩,λ⟨m,h1,h2⟩=>by have:s=m:=h1; subst this; exact h2⟩
 | x::l,r,s,e=>⟨λ⟨h1,h2,h3⟩=>let ⟨m,a,b⟩:=(zaO.split (l:=l)).mp h3; ⟨m,⟨h1,h2,a⟩,b⟩,λhu=>(by obtain⟨m,⟨h1,h2,a⟩,b⟩:=hu; exact⟨h1,h2,(zaO.split (l:=l)).mpr ⟨m,a,b⟩⟩)⟩
theorem zaO.app{l:List (Nat×Nat×Nat)}{s m e len pw:Nat}(h:zaO s l m)(hl:1<=len)(he:e=m+len):zaO s (l++[(m,len,pw)]) e:=zaO.split.mpr ⟨m,h,rfl,hl,he.symm⟩
theorem two_of{p:Array (Nat×Nat×Nat)}{i s e:Nat}(h:zaO s p.toList e)(hi:i+1 < p.size):∃ l r x y,p.toList=l++x::y::r/\l.length=i/\p[i]?=some x/\p[i+1]?=some y/\∃ m,zaO s l m/\x.1=m/\1<=x.2.1/\y.1=m+x.2.1/\1<=y.2.1/\zaO (m+x.2.1+y.2.1) r e:=by
 have h0:i < p.toList.length:=by simp; lia
 have h1:i+1 < p.toList.length:=by simpa using hi
 have e1:p.toList=p.toList.take i++p.toList[i]::p.toList[i+1]::p.toList.drop (i+2):=by
  conv=>lhs; rw[<- List.take_append_drop i p.toList,List.drop_eq_getElem_cons h0,List.drop_eq_getElem_cons h1]
 refine⟨_,_,_,_,e1,by simp; lia,by simp[show i < p.size by lia],by simp[hi],?_⟩
 rw[e1]at h
 obtain⟨m,a,b1,b2,c1,c2,d⟩:=zaO.split.mp h
 exact⟨m,a,b1,b2,c1,c2,d⟩
section
variable {n:Nat}{c:Cq}{σ σ':Ab}
theorem zaJ.modify{f:Array Keyed->SortSt->SortSt}(h:∀ it,f it (con c.k it σ)=con c.k it σ'):zaJ n c (λit=>(_root_.modify (f it):StateT SortSt Sem PUnit)) σ (λ_=>⟨⟩) σ':=λprog w A E it s Q hn ha q=>kasC_modify (by rw[h]; exact q)
theorem zaJ.set{g:Array Keyed->SortSt}(h:∀ it,g it=con c.k it σ'):zaJ n c (λit=>(MonadStateOf.set (g it):StateT SortSt Sem PUnit)) σ (λ_=>⟨⟩) σ':=λprog w A E it s Q hn ha q=>by
 have:(MonadStateOf.set (g it):StateT SortSt Sem PUnit)=_root_.modify (λ_=>g it):=rfl
 dsimp only
 rw[this]
 exact kasC_modify (by rw[h]; exact q)
noncomputable def lay(sa:Nat)(l:List (Nat×Nat))(p:Array Nat):Array Nat:=l.foldl (λa q=>a.setIfInBounds (sa+q.2) q.1) p
theorem ziW(it:Array Keyed)(sa:Nat):∀ (l:List Nat) (k:Nat) (p:Array Nat),(((l.map (kas_item it)).zipIdx k).foldl (λa q=>a.setIfInBounds (sa+q.2) q.1) (p.map (kas_item it)))=(lay sa (l.zipIdx k) p).map (kas_item it)
 | [],k,p=>rfl
 | x::l,k,p=>by
  simp only[List.map_cons,List.zipIdx_cons,List.foldl_cons,lay]
  have e:(p.map (kas_item it)).setIfInBounds (sa+k) (kas_item it x)=(p.setIfInBounds (sa+k) x).map (kas_item it):=by simp
  rw[e]
  exact ziW it sa l (k+1) _
theorem lay_ok(sa:Nat):∀ (l:List (Nat×Nat)) (p:Array Nat),(∀ q∈l,q.1 < n)->(∀ x∈p,x < n)->(lay sa l p).size=p.size/\∀ x∈lay sa l p,x < n
 | [],p,_,h=>⟨rfl,h⟩
 | q::l,p,hl,h=>by
  have h1:∀ x∈p.setIfInBounds (sa+q.2) q.1,x < n:=λx hx=>by
   rcases Array.mem_or_eq_of_mem_setIfInBounds hx with hx | rfl
   ·exact h x hx
   ·exact hl q List.mem_cons_self
  obtain⟨a,b⟩:=lay_ok sa l (p.setIfInBounds (sa+q.2) q.1) (λq' hq=>hl q' (lMc _ hq)) h1
  exact⟨by rw[show lay sa (q::l) p=lay sa l (p.setIfInBounds (sa+q.2) q.1)from rfl,a]; simp,b⟩
theorem zjN{p:Array Nat}{i j:Nat}(h:∀ x∈p,x < n):∀ x∈p.extract i j,x < n:=λx hx=>by
 have:=Array.mem_toList_iff.mpr hx
 rw[Array.toList_extract,List.extract_eq_take_drop]at this
 exact h x (Array.mem_toList_iff.mp (List.mem_of_mem_drop (List.mem_of_mem_take this)))
theorem zcI(i lo:Nat)(h:PI n σ)(hc:zaO 0 σ.pend.toList lo)(hlo:lo<=n)(hi:i+1 < σ.pend.size):zae n c (λ_=>zjz i) σ λr σ'=>PI n σ'/\zaO 0 σ'.pend.toList lo/\σ'.pend.size+1=σ.pend.size/\r=λ_=>true:=by
 obtain⟨l,r,⟨sa,na,pa⟩,⟨sb,nb,pb⟩,el,ell,e1,e2,m,c1,x1,x2,y1,y2,c2⟩:=two_of hc hi
 dsimp only at x1 x2 y1 y2 c2
 subst x1
 subst y1
 have hle:=c2.le
 have sz:=h.sz
 refine zae.bindE zaJ.get ?_
 dsimp only [con]
 simp only[e1,e2]
 have ep:((σ.pend.setIfInBounds i (sa,na+nb,pa)).eraseIdxIfInBounds (i+1)).toList=l++(sa,na+nb,pa)::r:=by
  have e3:(σ.pend.setIfInBounds i (sa,na+nb,pa)).eraseIdxIfInBounds (i+1)=(σ.pend.setIfInBounds i (sa,na+nb,pa)).eraseIdx (i+1) (by simpa using hi):=by
   unfold Array.eraseIdxIfInBounds; rw[dif_pos]
  rw[e3,Array.toList_eraseIdx,Array.toList_setIfInBounds,el,<- ell]
  rw[List.set_append_right _ _ (Nat.le_refl _),Nat.sub_self,List.set_cons_zero,List.eraseIdx_append_of_length_le (by lia),show l.length+1 - l.length=1 by lia]
  rfl
 have ch:zaO 0 ((σ.pend.setIfInBounds i (sa,na+nb,pa)).eraseIdxIfInBounds (i+1)).toList lo:=by
  rw[ep]
  exact zaO.split.mpr ⟨sa,c1,rfl,(show 1<=na+nb by lia),by rw[<- Nat.add_assoc]; exact c2⟩
 have csz:((σ.pend.setIfInBounds i (sa,na+nb,pa)).eraseIdxIfInBounds (i+1)).size+1=σ.pend.size:=by
  rw[<- Array.length_toList,ep,<- Array.length_toList,el]; simp; lia
 have ex:∀ (it:Array Keyed) (i j:Nat),(σ.p.map (kas_item it)).extract i j=(σ.p.extract i j).map (kas_item it):=λit i j=>by simp
 refine zae.bindE (zaJ.set (σ':=⟨σ.p,(σ.pend.setIfInBounds i (sa,na+nb,pa)).eraseIdxIfInBounds (i+1),σ.mg⟩) (λit=>rfl)) ?_
 generalize (σ.pend.setIfInBounds i (sa,na+nb,pa)).eraseIdxIfInBounds (i+1)=pend' at ch csz
 have h2:PI n ⟨σ.p,pend',σ.mg⟩:=⟨h.sz,h.lt⟩
 refine zae.bindE (zaJ.elem (show sa+na < σ.p.size by lia)) ?_
 refine zae.bind (zbJ false (σ.p.getD (sa+na) 0) σ.p sa na 0 (h.lt _ (by lia)) (λj hj=>h.lt j (by lia)) (by lia) (by lia)) ?_
 rintro r0 τ1 ⟨e5,k1,hk1,rfl⟩
 rw[e5]
 dsimp only
 by_cases d1:(na - k1==0)=true
 ·refine zae.pos d1 ?_
  exact zae.pure ⟨h2,ch,csz,rfl⟩
 ·refine zae.neg d1 ?_
  simp at d1
  refine zae.bindE (zaJ.elem (show sa+k1+(na - k1) - 1 < σ.p.size by lia)) ?_
  refine zae.bind (zbJ true (σ.p.getD (sa+k1+(na - k1) - 1) 0) σ.p (sa+na) nb (nb - 1) (h.lt _ (by lia)) (λj hj=>h.lt j (by lia)) (by lia) (by lia)) ?_
  rintro r0 τ1 ⟨e6,k2,hk2,rfl⟩
  rw[e6]
  dsimp only
  by_cases d2:(k2==0)=true
  ·refine zae.pos d2 ?_
   exact zae.pure ⟨h2,ch,csz,rfl⟩
  ·refine zae.neg d2 ?_
   simp at d2
   simp only[ex]
   by_cases d3:na - k1<=k2
   ·refine zae.pos d3 ?_
    refine zae.bind (lo_gets (σ.p.extract (sa+k1) (sa+na)) (σ.p.extract (sa+na) (sa+na+k2)) (zjN h.all) (zjN h.all) (by simp[sz]; lia) (by simp[sz]; lia)) ?_
    rintro r σ3 ⟨⟨kp,kq⟩,⟨o,ho,eo⟩,hs⟩
    refine zae.bindE (zaJ.modify (σ':=⟨lay (sa+k1) (o.toList.zipIdx 0) σ3.p,σ3.pend,σ3.mg⟩) (λit=>?_)) ?_
    ·have e9:((r it).toList.zipIdx 0).foldl (λa q=>a.setIfInBounds (sa+k1+q.2) q.1) (σ3.p.map (kas_item it))=(lay (sa+k1) (o.toList.zipIdx 0) σ3.p).map (kas_item it):=by
      rw[eo it,Array.toList_map]; exact ziW it (sa+k1) o.toList 0 σ3.p
     exact congrArg (λz=>SortSt.mk' c.k z σ3.pend σ3.mg none) e9
    ·refine zae.bindE zaJ.get ?_
     have hl:=lay_ok (n:=n) (sa+k1) (o.toList.zipIdx 0) σ3.p (λq hq=>ho q.1 (by have:=List.fst_mem_of_mem_zipIdx hq; simpa using this)) (by rw[show σ3.p=σ.p from kp]; exact h.all)
     exact zae.pure ⟨PI.of (hl.1.trans (by rw[show σ3.p=σ.p from kp]; exact sz)) hl.2,by rw[show σ3.pend=_ from kq]; exact ch,by rw[show σ3.pend=_ from kq]; exact csz,rfl⟩
   ·refine zae.neg d3 ?_
    refine zae.bind (hi_gets (σ.p.extract (sa+k1) (sa+na)) (σ.p.extract (sa+na) (sa+na+k2)) (zjN h.all) (zjN h.all) (by simp[sz]; lia) (by simp[sz]; lia)) ?_
    rintro r σ3 ⟨⟨kp,kq⟩,⟨o,ho,eo⟩,hs⟩
    refine zae.bindE (zaJ.modify (σ':=⟨lay (sa+k1) (o.toList.zipIdx 0) σ3.p,σ3.pend,σ3.mg⟩) (λit=>?_)) ?_
    ·have e9:((r it).toList.zipIdx 0).foldl (λa q=>a.setIfInBounds (sa+k1+q.2) q.1) (σ3.p.map (kas_item it))=(lay (sa+k1) (o.toList.zipIdx 0) σ3.p).map (kas_item it):=by
      rw[eo it,Array.toList_map]; exact ziW it (sa+k1) o.toList 0 σ3.p
     exact congrArg (λz=>SortSt.mk' c.k z σ3.pend σ3.mg none) e9
    ·refine zae.bindE zaJ.get ?_
     have hl:=lay_ok (n:=n) (sa+k1) (o.toList.zipIdx 0) σ3.p (λq hq=>ho q.1 (by have:=List.fst_mem_of_mem_zipIdx hq; simpa using this)) (by rw[show σ3.p=σ.p from kp]; exact h.all)
     exact zae.pure ⟨PI.of (hl.1.trans (by rw[show σ3.p=σ.p from kp]; exact sz)) hl.2,by rw[show σ3.pend=_ from kq]; exact ch,by rw[show σ3.pend=_ from kq]; exact csz,rfl⟩
end
noncomputable def PW:Nat->Nat->Nat->Nat->Nat:=sortPriv% PySem.Builtin.power
noncomputable def MR:Nat->Nat->Nat->Nat:=sortPriv% PySem.Builtin.minRun
theorem zaO.mod{pw:Nat}:∀ {l:List (Nat×Nat×Nat)} {s e i:Nat},zaO s l e->zaO s (l.modify i λx=>(x.1,x.2.1,pw)) e
 | [],s,e,i,h=>by simpa using h
 | x::l,s,e,0,⟨h1,h2,h3⟩=>⟨h1,h2,h3⟩
 | x::l,s,e,i+1,⟨h1,h2,h3⟩=>⟨h1,h2,h3.mod⟩
section
variable {n:Nat}{c:Cq}{σ σ':Ab}
theorem runs_gets(h:PI n σ)(hp:σ.pend=#[])(hn:1<=n):zae n c (λ_=>sortRuns') σ λr σ'=>PI n σ':=by
 refine zae.bindE zaJ.get ?_
 dsimp only [con]
 simp only[Array.size_map,h.sz]
 refine zae.bind (zae.loop (λ_ (b:Nat)=>((none,b):Option Unit×Nat)) (λ_ lo τ=>PI n τ/\zaO 0 τ.pend.toList lo/\lo<=n) (λlo τ=>PI n τ/\zaO 0 τ.pend.toList lo/\lo<=n) (λb τ h=>h) (λx k lo τ hI=>?_) 0 ⟨h,by rw[hp]; rfl,Nat.zero_le _⟩) ?_
 ·obtain⟨h1,c1,hlo⟩:=hI
  dsimp only
  by_cases d1:lo >= n
  ·simp only[d1,if_true]
   exact zae.pure (.inl ⟨lo,⟨h1,c1,hlo⟩,rfl⟩)
  ·simp only[d1,if_false]
   refine zae.bind (count_gets lo (n - lo) h1 (by lia) (by lia)) ?_
   rintro r τ2 ⟨l2,k1,hk1,hk2,rfl⟩
   have c2:zaO 0 τ2.pend.toList lo:=by rw[l2.pe]; exact c1
   dsimp only
   split
   ·rename_i hmr
    refine zcu ?_
    refine zae.bind (bin_gets lo (min (n - lo) _) k1 l2.k (by lia)) ?_
    rintro r τ3 ⟨l3,rfl⟩
    have c3:zaO 0 τ3.pend.toList lo:=by rw[l3.pe]; exact c2
    have hlen:1<=min (n - lo) (MR n n 0):=by unfold MR; lia
    have hlen2:lo+min (n - lo) (MR n n 0)<=n:=by lia
    simp only[Bool.not_true,Bool.false_eq_true,if_false]
    refine zae.bindE zaJ.get ?_
    dsimp only [con]
    cases hbk:τ3.pend.back? with
    | none =>
     dsimp only
     refine zae.bindE (zaJ.modify (σ':=⟨τ3.p,τ3.pend.push (lo,min (n - lo) (MR n n 0),0),τ3.mg⟩) (λit=>rfl)) ?_
     exact zae.pure (.inr ⟨lo+(min (n - lo) (MR n n 0)),⟨⟨l3.k.sz,l3.k.lt⟩,by rw[Array.toList_push]; exact zaO.app c3 hlen rfl,hlen2⟩,rfl⟩)
    | some x =>
     obtain⟨s1,n1,p1⟩:=x
     dsimp only
     refine zae.bind (zae.loop (λ_ (b:Unit)=>((none,()):Option Unit×Unit)) (λ_ b τ4=>PI n τ4/\zaO 0 τ4.pend.toList lo) (λb τ4=>PI n τ4/\zaO 0 τ4.pend.toList lo) (λb τ4 h=>h) (λy k' b τ4 hI=>?_) () ⟨l3.k,c3⟩) ?_
     ·obtain⟨h4,c4⟩:=hI
      refine zae.bindE zaJ.get ?_
      dsimp only [con]
      by_cases hs:τ4.pend.size > 1
      ·simp only[hs,if_true]
       have hix:τ4.pend.size - 2 < τ4.pend.size:=by lia
       rw[Array.getElem?_eq_getElem hix]
       generalize τ4.pend[τ4.pend.size - 2]=y2
       obtain⟨u1,u2,u3⟩:=y2
       dsimp only
       split
       ·exact zae.pure (.inl ⟨(),⟨h4,c4⟩,rfl⟩)
       ·refine zae.bind (zcI (τ4.pend.size - 2) lo h4 c4 (by lia) (by lia)) ?_
        rintro r τ5 ⟨h5,c5,_,rfl⟩
        exact zae.pure (.inr ⟨(),⟨h5,c5⟩,rfl⟩)
      ·simp only[hs,if_false]
       exact zae.pure (.inl ⟨(),⟨h4,c4⟩,rfl⟩)
     ·rintro r τ4 ⟨b,⟨h4,c4⟩,rfl⟩
      dsimp only
      refine zae.bindE (zaJ.modify (σ':=⟨τ4.p,τ4.pend.modify (τ4.pend.size - 1) (λx=>(x.1,x.2.1,PW n (2 * s1+n1) (2 * s1+n1+n1+min (n - lo) (MR n n 0)) n)),τ4.mg⟩) (λit=>rfl)) ?_
      have c6:∀ pw,zaO 0 (τ4.pend.modify (τ4.pend.size - 1) λx=>(x.1,x.2.1,pw)).toList lo:=λpw=>by rw[Array.toList_modify]; exact c4.mod
      refine zae.bindE (zaJ.modify (σ':=⟨τ4.p,(τ4.pend.modify (τ4.pend.size - 1) (λx=>(x.1,x.2.1,PW n (2 * s1+n1) (2 * s1+n1+n1+min (n - lo) (MR n n 0)) n))).push (lo,min (n - lo) (MR n n 0),0),τ4.mg⟩) (λit=>rfl)) ?_
      exact zae.pure (.inr ⟨lo+(min (n - lo) (MR n n 0)),⟨⟨h4.sz,h4.lt⟩,by rw[Array.toList_push]; exact zaO.app (c6 _) hlen rfl,hlen2⟩,rfl⟩)
   ·have hlen:1<=k1:=hk1
    have hlen2:lo+k1<=n:=by lia
    refine zae.bindE zaJ.get ?_
    dsimp only [con]
    cases hbk:τ2.pend.back? with
    | none =>
     dsimp only
     refine zae.bindE (zaJ.modify (σ':=⟨τ2.p,τ2.pend.push (lo,k1,0),τ2.mg⟩) (λit=>rfl)) ?_
     exact zae.pure (.inr ⟨lo+(k1),⟨⟨l2.k.sz,l2.k.lt⟩,by rw[Array.toList_push]; exact zaO.app c2 hlen rfl,hlen2⟩,rfl⟩)
    | some x =>
     obtain⟨s1,n1,p1⟩:=x
     dsimp only
     refine zae.bind (zae.loop (λ_ (b:Unit)=>((none,()):Option Unit×Unit)) (λ_ b τ4=>PI n τ4/\zaO 0 τ4.pend.toList lo) (λb τ4=>PI n τ4/\zaO 0 τ4.pend.toList lo) (λb τ4 h=>h) (λy k' b τ4 hI=>?_) () ⟨l2.k,c2⟩) ?_
     ·obtain⟨h4,c4⟩:=hI
      refine zae.bindE zaJ.get ?_
      dsimp only [con]
      by_cases hs:τ4.pend.size > 1
      ·simp only[hs,if_true]
       have hix:τ4.pend.size - 2 < τ4.pend.size:=by lia
       rw[Array.getElem?_eq_getElem hix]
       generalize τ4.pend[τ4.pend.size - 2]=y2
       obtain⟨u1,u2,u3⟩:=y2
       dsimp only
       split
       ·exact zae.pure (.inl ⟨(),⟨h4,c4⟩,rfl⟩)
       ·refine zae.bind (zcI (τ4.pend.size - 2) lo h4 c4 (by lia) (by lia)) ?_
        rintro r τ5 ⟨h5,c5,_,rfl⟩
        exact zae.pure (.inr ⟨(),⟨h5,c5⟩,rfl⟩)
      ·simp only[hs,if_false]
       exact zae.pure (.inl ⟨(),⟨h4,c4⟩,rfl⟩)
     ·rintro r τ4 ⟨b,⟨h4,c4⟩,rfl⟩
      dsimp only
      refine zae.bindE (zaJ.modify (σ':=⟨τ4.p,τ4.pend.modify (τ4.pend.size - 1) (λx=>(x.1,x.2.1,PW n (2 * s1+n1) (2 * s1+n1+n1+k1) n)),τ4.mg⟩) (λit=>rfl)) ?_
      have c6:∀ pw,zaO 0 (τ4.pend.modify (τ4.pend.size - 1) λx=>(x.1,x.2.1,pw)).toList lo:=λpw=>by rw[Array.toList_modify]; exact c4.mod
      refine zae.bindE (zaJ.modify (σ':=⟨τ4.p,(τ4.pend.modify (τ4.pend.size - 1) (λx=>(x.1,x.2.1,PW n (2 * s1+n1) (2 * s1+n1+n1+k1) n))).push (lo,k1,0),τ4.mg⟩) (λit=>rfl)) ?_
      exact zae.pure (.inr ⟨lo+(k1),⟨⟨h4.sz,h4.lt⟩,by rw[Array.toList_push]; exact zaO.app (c6 _) hlen rfl,hlen2⟩,rfl⟩)
 ·rintro r τ ⟨lo,⟨h1,c1,hlo⟩,rfl⟩
  dsimp only
  refine zae.bind (zae.loop (λ_ (b:Unit)=>((none,()):Option Unit×Unit)) (λ_ b τ4=>PI n τ4/\zaO 0 τ4.pend.toList lo) (λb τ4=>PI n τ4) (λb τ4 h=>h.1) (λy k' b τ4 hI=>?_) () ⟨h1,c1⟩) ?_
  ·obtain⟨h4,c4⟩:=hI
   refine zae.bindE zaJ.get ?_
   dsimp only [con]
   by_cases hs:τ4.pend.size<=1
   ·simp only[hs,if_true]
    exact zae.pure (.inl ⟨(),h4,rfl⟩)
   ·simp only[hs,if_false]
    by_cases h0:τ4.pend.size - 2 > 0
    ·simp only[h0,if_true]
     have key:∀ i,i+1 < τ4.pend.size->zae n c (λ_=>zjz i) τ4 λr σ'=>PI n σ'/\zaO 0 σ'.pend.toList lo/\r=λ_=>true:=λi hi =>
      (zcI i lo h4 c4 hlo hi).mono λr σ' hu=>(by obtain⟨a,b,_,d⟩:=hu; exact⟨a,b,d⟩)
     refine zae.bind (key (if Option.any (λx=>decide (x < τ4.pend[τ4.pend.size - 2+1]?.elim 0 λx=>x.snd.fst)) (Option.map (λx=>x.snd.fst) τ4.pend[τ4.pend.size - 2 - 1]?)=true then τ4.pend.size - 2 - 1 else τ4.pend.size - 2) (by split<;>lia)) ?_
     rintro r τ5 ⟨h5,c5,rfl⟩
     exact zae.pure (.inr ⟨(),⟨h5,c5⟩,rfl⟩)
    ·simp only[h0,if_false,Option.any_none,Bool.false_eq_true]
     refine zae.bind (zcI (τ4.pend.size - 2) lo h4 c4 hlo (by lia)) ?_
     rintro r τ5 ⟨h5,c5,_,rfl⟩
     exact zae.pure (.inr ⟨(),⟨h5,c5⟩,rfl⟩)
  ·rintro r τ4 ⟨b,h4,rfl⟩
   exact zae.pure h4
end
noncomputable def σ0(n:Nat):Ab:=⟨(List.range n).toArray,#[],7⟩
theorem pi0(n:Nat):PI n (σ0 n):=⟨by simp[σ0],λi hi=>by simp[σ0,Array.getD,hi]⟩
theorem zjo(n:Nat)(c:Cq)(hn:1<=n):∃ r σ',PI n σ'/\zaJ n c (λ_=>sortRuns') (σ0 n) r σ':=runs_gets (pi0 n) rfl hn
open Classical in
noncomputable def sortIx(n:Nat)(c:Cq):List Nat:=if h:1 < n then (Classical.choose (Classical.choose_spec (zjo n c (Nat.le_of_lt h)))).p.toList else List.range n
theorem sortIx_small{n:Nat}{c:Cq}(h:n < 2):sortIx n c=List.range n:=by unfold sortIx; rw[dif_neg (by lia)]
theorem sortIx_big{n:Nat}{c:Cq}(h:1 < n):∃ r σ',σ'.p.toList=sortIx n c/\PI n σ'/\zaJ n c (λ_=>sortRuns') (σ0 n) r σ':=by
 refine⟨_,_,?_,Classical.choose_spec (Classical.choose_spec (zjo n c (Nat.le_of_lt h)))⟩
 unfold sortIx; rw[dif_pos h]
theorem sortIx_len(n:Nat)(c:Cq):(sortIx n c).length=n:=by
 by_cases h:1 < n
 ·obtain⟨_,σ',e,pi,_⟩:=sortIx_big (c:=c) h
  rw[<- e]; simpa using pi.sz
 ·rw[sortIx_small (by lia)]; simp
theorem sortIx_lt{n:Nat}{c:Cq}{i:Nat}(h:i∈sortIx n c):i < n:=by
 by_cases h1:1 < n
 ·obtain⟨_,σ',e,pi,_⟩:=sortIx_big (c:=c) h1
  rw[<- e]at h
  obtain⟨j,hj,ej⟩:=List.getElem_of_mem h
  have hj':j < σ'.p.size:=by simpa using hj
  have:=pi.lt j (by rw[<- pi.sz]; exact hj')
  have e2:σ'.p.getD j 0=i:=by rw[<- ej]; simp[Array.getD,hj']
  rw[e2]at this; exact this
 ·rw[sortIx_small (by lia)]at h; simpa using h
end Ts
namespace L2
open PySem PySem.Spec PyProof.Rows
noncomputable def ltI:List Int->List Int->Bool
 | [],[]=>false
 | [],_::_=>true
 | _::_,[]=>false
 | a::l,b::r=>if a=b then ltI l r else decide (a < b)
noncomputable def ltK(x y:Str×List Int):Bool:=if x.1=y.1 then ltI x.2 y.2 else decide (x.1.cps.toList < y.1.cps.toList)
noncomputable def zgn(h:Heap)(v:Value)(k:Str×List Int):Prop:=∃ a t us,v=.ref a/\IsTup h a (Value.str k.1 t::us).toArray/\IntsAre us k.2
section
variable {prog:Program}{w:World}{A:Around}{E:Value->Shared->Prop}{s:Shared}
theorem zgn.keeps{h h':Heap}{v:Value}{k:Str×List Int}(kp:∀ b o,h.get? b=some o->o.cls=.type "tuple"->h'.get? b=some o) (p:zgn h v k):zgn h' v k :=
 let ⟨a,t,us,e,⟨o,e1,e2,n,e3⟩,i⟩:=p; ⟨a,t,us,e,⟨o,kp _ _ e1 e2,e2,n,e3⟩,i⟩
theorem zjE{Q:Bool->Shared->Prop}:∀ {xs ys:List Value} {as bs:List Int} (i:Nat) (n m:Nat),IntsAre xs as->IntsAre ys bs->0 < i->n=i+xs.length->m=i+ys.length->Q (ltI as bs) s ->
  W.KatLex prog w A true (decide (n < m)) Q (xs.zip ys) i s
 | [],[],_,_,i,n,m,.nil,.nil,hi,hn,hm,q=>by
  refine W.kat_nil ?_
  have e:decide (n < m)=ltI [] []:=by simp[ltI]; lia
  rw[e]; exact q
 | [],_::_,_,_,i,n,m,.nil,.cons b u r,hi,hn,hm,q=>by
  refine W.kat_nil ?_
  have e:decide (n < m)=true:=by simp at hn hm ⊢; lia
  rw[e]; exact q
 | _::_,[],_,_,i,n,m,.cons a u r,.nil,hi,hn,hm,q=>by
  refine W.kat_nil ?_
  have e:decide (n < m)=false:=by simp at hn hm ⊢; lia
  rw[e]; exact q
 | _::_,_::_,_,_,i,n,m,.cons a u r,.cons b u' r',hi,hn,hm,q=>by
  refine W.kat_cons (wpAny_eqBool_int ?_)
  by_cases e:a=b
  ·subst e
   have e':(a==a)=true:=by simp
   rw[e']
   refine W.kat_yes (zjE (i+1) n m r r' (by lia) (by simp at hn; lia) (by simp at hm; lia) ?_)
   simpa [ltI] using q
  ·have e':(a==b)=false:=by simpa using e
   rw[e']
   refine W.kat_no ?_
   have z:(true&&i==0)=false:=by simp; lia
   rw[z]
   refine W.kat_one _ _ ?_
   simp only[ltI,e,if_false]at q
   exact richCompare_gives (op:=.Lt) (typeIs_int s _ u) (typeIs_int s _ u') F.slot_int_lt F.entry_int_lt (F.args_int_lt_2 _ _) (gives_int_lt _ _ u u') (λx=>nomatch x) q
theorem lt_key{x y:Value}{a b:Str×List Int}{Q:Bool->Shared->Prop}(hx:zgn s.heap x a)(hy:zgn s.heap y b)(q:Q (ltK a b) s):wpAny (model prog w) A (keyLt' (tuples' true) x y) Q E s:=by
 obtain⟨ax,t,us,rfl,⟨ox,x1,x2,nx,x3⟩,ix⟩:=hx
 obtain⟨ay,t',us',rfl,⟨oy,y1,y2,ny,y3⟩,iy⟩:=hy
 refine W.kat_lt x1 x3 y1 y3 ?_
 show W.KatLex prog w A true _ Q ((Value.str a.1 t,Value.str b.1 t')::us.zip us') 0 s
 refine W.kat_cons (wpAny_eqBool_str ?_)
 by_cases e:a.1=b.1
 ·have e':decide (a.1=b.1)=true:=by simpa using e
  rw[e']
  refine W.kat_yes (zjE 1 _ _ ix iy (by lia) (by simp; lia) (by simp; lia) ?_)
  simpa [ltK,e] using q
 ·have e':decide (a.1=b.1)=false:=by simpa using e
  rw[e']
  refine W.kat_no ?_
  simp only[ltK,e,if_false]at q
  exact oneLt_str q
end
noncomputable abbrev lamA(x:Str)(p:Pos):Arguments:={ posonlyargs:=[],args:=[{ arg:=x,annotation:=none,pos:=p }],vararg:=none,kwonlyargs:=[],kw_defaults:=[],kwarg:=none,defaults:=[] }
noncomputable abbrev lamB(x:Str)(n:Int)(p1 p2 p3 p4:Pos):Expr:=.Subscript (.Name x p1) (.Slice none (some (.Constant (.int n) 0 p2)) none p3) p4
noncomputable abbrev lamS(x:Str):Scope:={ kind:=.function,names:=[(x,.local)],isGenerator:=false,isCoroutine:=false,more:=[] }
section
variable {prog:Program}{w:World}{A:Around}{E:Value->Shared->Prop}{s:Shared}
theorem sIx_take{its:List Value}{n:Nat}:((its.drop (HT.sIx its.length 0 none)).take (HT.sIx its.length its.length (some (n:Int)) - HT.sIx its.length 0 none))=its.take n:=by
 rw[HT.sIx_none,HT.sIx_nat,List.drop_zero,Nat.sub_zero]
 by_cases h:n<=its.length
 ·rw[Nat.min_eq_left h]
 ·rw[Nat.min_eq_right (by lia),List.take_of_length_le (Nat.le_refl _),List.take_of_length_le (by lia)]
theorem cut_tail{a sl:Addr}{its:List Value}{n:Nat}{t:Tok}{v:Expr}{lo hi:Option Expr}{p:Pos}{Q:Value->Shared->Prop}(ht:IsTup s.heap a its.toArray)(hs:s.heap.IsSliceOf sl .none (.int n t) .none)(hz:its.length<=sizeLine)
  (h:∀ h' tk k,(∀ b o,s.heap.get? b=some o->h'.get? b=some o)->IsTup h' k (its.take n).toArray->Q (.ref k) { s with heap:=h',toks:=tk }) :
  wpAny (model prog w) A (subscriptTail v (.Slice lo hi none p) (.ref a) (.ref sl)) Q E s:=by
 refine tail_any (ops:=[.ref sl,.ref a]) ht.typeIs PyProof.Rows.slot_tuple_getitem.lookup ?_ (by with_unfolding_all rfl)
 have e:=sIx_take (its:=its) (n:=n)
 by_cases hw:HT.sIx its.toArray.size 0 none=0/\HT.sIx its.toArray.size its.toArray.size (some (n:Int))=its.toArray.size
 ·refine HT.getItem_tuple_all ht hs .none (.int _ _) hw (h s.heap s.toks a (λ_ _ e=>e) ?_)
  rw[List.size_toArray]at hw
  rw[hw.1,hw.2]at e
  rw[<- e]
  simpa using ht
 ·refine HT.getItem_tuple_cut ht hs .none (.int _ _) hw ?_ (by simpa using hz)
  refine h _ s.toks _ (λb o e=>hPs _ e) ?_
  rw[List.size_toArray]
  show IsTup (s.heap.push { cls:=.type "tuple",data:=.seq ((its.drop (HT.sIx its.length 0 none)).take (HT.sIx its.length its.length (some (n:Int)) - HT.sIx its.length 0 none)).toArray }) _ _
  rw[e]
  exact IsTup.new _ _
theorem lam_call{f c a:Addr}{nm qual x:Str}{n:Nat}{p p1 p2 p3 p4:Pos}{pm ctv:Value}{its:List Value}{Q:Value->Shared->Prop}(hroom:A.depth < recursionLimit)(hlim:s.heap.NoLimit)
  (ho:s.heap.get? f=some (PySem.W.kla_obj nm qual (lamA x p) (lamB x n p1 p2 p3 p4) (lamS x) [] pm c ctv)) (hcd:s.heap.CodeRec (.ref c) qual) (ht:IsTup s.heap a its.toArray) (hz:its.length<=sizeLine)
  (hd:(x==("__debug__":Str))=false) (hb:∀ v pm cd ctv:Value,bindArgs (PySem.W.kla_fn nm qual (lamA x p) (lamB x n p1 p2 p3 p4) (lamS x) [] pm cd ctv) ⟨[v],[]⟩=pure [(x,v)])
  (h:∀ h' tk k,(∀ b o,s.heap.get? b=some o->h'.get? b=some o)->IsTup h' k (its.take n).toArray->Q (.ref k) { s with heap:=h',toks:=tk }) :
  wpAny (model prog w) A (call (.ref f) [.ref a]) Q E s:=by
 refine wpAny_call (PySem.W.kla_callFunE hroom ho rfl rfl rfl rfl hcd ?_)
 rw[hb]
 refine wpAny_pure (wpAny_newFunctionEnv (λy hy=>by simp at hy; subst hy; simp) (λy hy=>by simp at hy; subst hy; simp) (λh₁ hns hsb=>⟨hlim.fresh _ hsb,?_⟩) rfl)
 have hk₁:∀ b o,s.heap.get? b=some o->h₁.get? b=some o:=λb o e=>hsb.extBut b o (nNl (hLz e)) (hPs _ e)
 refine PySem.W.kla_codeExpr ?_
 refine Subscript_ (wpAny_Name (wpAny_loadName_local rfl (by simp[newEnv,Env.kindOf]) hns (show List.lookup x [(x,Value.ref a)].reverse=some (Value.ref a)by simp) ?_) hd)
 refine wpAny_Slice ?_
 rw[evalPart_none]
 refine wQ ?_
 rw[evalPart_some]
 refine wpAny_Constant_int ?_
 refine wQ ?_
 refine cut_tail (its:=its) (n:=n) (let ⟨o,e,r⟩:=ht; ⟨o,hPs _ (hk₁ _ _ e),r⟩) (Heap.IsSliceOf.new ..) hz λh' tk k kp tp=>?_
 exact h h' tk k (λb o e=>kp b o (hPs _ (hk₁ b o e))) tp
end
noncomputable def k0:Str×List Int:=("",[])
noncomputable def cq(ks:List (Str×List Int)):Ts.Cq:=⟨λi j=>ltK (ks.getD i k0) (ks.getD j k0),tuples' true⟩
noncomputable abbrev zcK(h:Heap)(us:List Value)(ks:List (Str×List Int)):Prop:=Paired (zgn h) us ks
theorem zcK.keeps{h h':Heap}{us:List Value}{ks:List (Str×List Int)}(kp:∀ b o,h.get? b=some o->o.cls=.type "tuple"->h'.get? b=some o) (p:zcK h us ks):zcK h' us ks :=
 Paired.mapP p λ_ _ q=>q.keeps kp
theorem zcK.snoc{h:Heap}:∀ {us:List Value} {ks:List (Str×List Int)} {u:Value} {k:Str×List Int},zcK h us ks->zgn h u k->zcK h (us++[u]) (ks++[k])
 | _,_,_,_,.nil,q=>.cons q .nil
 | _,_,_,_,.cons a r,q=>.cons a (zcK.snoc r q)
theorem zcK.get{h:Heap}{us:List Value}{ks:List (Str×List Int)}(p:zcK h us ks){i:Nat}(hi:i < us.length):zgn h (us.getD i .none) (ks.getD i k0):=by
 obtain⟨q,hq,r⟩:=zdT p (lGe hi)
 rw[List.getD_eq_getElem?_getD,List.getElem?_eq_getElem hi,List.getD_eq_getElem?_getD,hq]
 exact r
theorem zcK.tups{h:Heap}:∀ {us:List Value} {ks:List (Str×List Int)},zcK h us ks->∃ fs,W.KatTups h us fs/\fs.length=us.length/\∀ v∈fs,∃ x t,v=Value.str x t
 | _,_,.nil=>⟨[],W.KatTups.nil,rfl,λv hv=>by cases hv⟩
 | _,_,.cons ⟨a,t,us,e,⟨o,e1,e2,n,e3⟩,i⟩ r=>by
  obtain⟨fs,k,l,m⟩:=zcK.tups r
  subst e
  refine⟨_::fs,W.KatTups.cons e1 e2 e3 rfl k,by simp[l],λv hv=>?_⟩
  rcases List.mem_cons.mp hv with h | h
  ·exact⟨_,t,h⟩
  ·exact m v h
theorem ziJ(it:Array Keyed):((List.range it.size).toArray.map (W.kas_item it))=it:=by
 refine Array.ext (by simp) λi h1 h2=>?_
 simp[W.kas_item,Array.getD,h2]
section
variable {prog:Program}{w:World}{A:Around}{E:Value->Shared->Prop}{s:Shared}
theorem keys_run{us vs:List Value}{ks:List (Str×List Int)}{Q:Unit×SortSt->Shared->Prop}(hk:zcK s.heap us ks)(hl:us.length=vs.length)(h2:2<=vs.length)
  (q:∀ st,(arrOf st).map (·.2)=((Ts.sortIx vs.length (cq ks)).map λi=>vs.getD i Value.none).toArray->(arrOf st).size=vs.length->failedOf st=none->Q ((),st) s) :
  wpAny (model prog w) A ((sortRuns').run (SortSt.mk' (tuples' true) (us.toArray.zip vs.toArray) #[] 7 none)) Q E s:=by
 obtain⟨r,σ',ep,pi,d⟩:=Ts.sortIx_big (n:=vs.length) (c:=cq ks) (by lia)
 have hz:(us.toArray.zip vs.toArray).size=vs.length:=by simp; lia
 have e0:SortSt.mk' (tuples' true) (us.toArray.zip vs.toArray) #[] 7 none=Ts.con (cq ks).k (us.toArray.zip vs.toArray) (Ts.σ0 vs.length):=by
  show _=SortSt.mk' (tuples' true) ((List.range vs.length).toArray.map (W.kas_item (us.toArray.zip vs.toArray))) #[] 7 none
  rw[<- hz,ziJ]
 rw[e0]
 have:=d prog w A E (us.toArray.zip vs.toArray) s (λ_ st s'=>Q ((),st) s') hz ?_ ?_
 ·exact this
 ·intro i j hi hj C hC
  unfold W.kas_cmp
  rw[W.kat_item hl,W.kat_item hl]
  exact lt_key (hk.get (by lia)) (hk.get (by lia)) hC
 ·refine q _ ?_ ?_ rfl
  ·rw[<- ep]
   exact W.kat_snds hl rfl
  ·show(σ'.p.map _).size=_
   rw[Array.size_map,pi.sz]
noncomputable abbrev zhv(a:Addr)(h h':Heap):Prop:=∀ b o,b≠a->h.get? b=some o->h'.get? b=some o
theorem key_sort{a f:Addr}{vs:List Value}{ks:List (Str×List Int)}{n:Nat}{PP:PySem.Fin->Shared->Prop}(ho:s.heap.get? a=some (seqObj "list" vs.toArray n)) (hlen:ks.length=vs.length) (hz:vs.length<=sizeLine)
  (turn:∀ (i:Nat) (v:Value) (k:Str×List Int),vs[i]?=some v->ks[i]?=some k->∀ (h:Heap) (tk:Nat),zhv a s.heap h->∀ Q E:Value->Shared->Prop,
   (∀ h' tk' u,(∀ b o,h.get? b=some o->h'.get? b=some o)->zgn h' u k->Q u { s with heap:=h',toks:=tk' })->wpAny (model prog w) A (call (.ref f) [v]) Q E { s with heap:=h,toks:=tk })
  (h:∀ h' tk c,zhv a s.heap h'->h'.get? a=some (seqObj "list" ((Ts.sortIx vs.length (cq ks)).map λi=>vs.getD i Value.none).toArray c)->PP (.done (.ret .none)) { s with heap:=h',toks:=tk }) :
  wpAny (model prog w) A (ksk_tree a (.ref f) false) PP E s:=by
 have ha:a < s.heap.objs.size:=hLz ho
 have s1:=Heap.SameBut.update s.heap a (Obj.mapSeq λ_=>(#[]:Array Value))
 obtain⟨e1,ho1⟩:∃ e1,(s.heap.update a (Obj.mapSeq λ_=>(#[]:Array Value))).get? a=some (seqObj "list" #[] e1):=⟨_,get?_update_seq ho λ_=>#[]⟩
 have hkS:((s.heap.update a (Obj.mapSeq λ_=>(#[]:Array Value))).push (seqObj "tuple" vs.toArray 0)).objs.size=s.heap.objs.size+1:=by rw[size_push',Heap.size_update]
 unfold ksk_tree
 refine wB (listItems_at ho rfl ?_)
 refine wpAny_bind (listUpdate_at ho rfl ?_ (by simpa using hz) (Nat.zero_le _))
 refine wB (seqEpoch_at ho1 rfl ?_)
 refine wpAny_bind (wpAny_newTuple ?_ (by simpa using hz))
 refine wB (wpAny_newList ?_ (Nat.zero_le _))
 refine wpAny_holding ?_
 rw[hkS]
 have keep0:zhv a s.heap (((s.heap.update a (Obj.mapSeq λ_=>(#[]:Array Value))).push (seqObj "tuple" vs.toArray 0)).push (seqObj "list" #[] 0)):=λb o hb e =>
  hPs _ (hPs _ ((s1.2 b hb).trans e))
 have a0:(((s.heap.update a (Obj.mapSeq λ_=>(#[]:Array Value))).push (seqObj "tuple" vs.toArray 0)).push (seqObj "list" #[] 0)).get? a=some (seqObj "list" #[] e1):=Heap.get?_push_of_some _ (Heap.get?_push_of_some _ ho1)
 have k0':(((s.heap.update a (Obj.mapSeq λ_=>(#[]:Array Value))).push (seqObj "tuple" vs.toArray 0)).push (seqObj "list" #[] 0)).get? (s.heap.objs.size+1)=some (seqObj "list" #[] 0):=by
  rw[<- hkS]; exact Heap.get?_push_size _ rfl
 have hka:s.heap.objs.size+1≠a:=Nat.ne_of_gt (Nat.lt_succ_of_lt ha)
 generalize ((s.heap.update a (Obj.mapSeq λ_=>(#[]:Array Value))).push (seqObj "tuple" vs.toArray 0)).push (seqObj "list" #[] 0)=g0 at keep0 a0 k0' ⊢
 have nk:∀ b o,s.heap.get? b=some o->b≠s.heap.objs.size+1:=λb o e=>nNl (Nat.lt_succ_of_lt (hLz e))
 generalize s.heap.objs.size+1=kS at k0' hka nk ⊢
 unfold ksk_rest
 refine wB (wpAny_rule ?_)
 first
  | rw[List.forIn_toArray]
  | (rw[<- Array.forIn_toList]; simp only[List.toList_toArray])
  | rw[<- Array.forIn_toList]
 refine wpAny_bind (ksk_fold (λi s'=>∃ h' tk kA e,s'={ s with heap:=h',toks:=tk }/\zhv a s.heap h'/\h'.get? a=some (seqObj "list" #[] e1)/\h'.get? kS=some (seqObj "list" kA e)/\zcK h' kA.toList (ks.take i)) vs 0 _
  ⟨g0,s.toks,#[],0,rfl,keep0,a0,k0',by simpa using Paired.nil⟩ ?step ?done)
 case step =>
  rintro j x s' hx ⟨h',tk,kA,e,rfl,kp,ha',hk',hks⟩
  simp only[Nat.zero_add]at hks ⊢
  have hj:j < vs.length:=(List.getElem?_eq_some_iff.mp hx).1
  obtain⟨k,hkj⟩:∃ k,ks[j]?=some k:=⟨_,lGe (by lia)⟩
  have hza:kA.size=j:=by
   have h1:=Paired.length hks
   rw[Array.length_toList,List.length_take]at h1
   lia
  refine wB (wpAny_attempt (turn j x k hx hkj h' tk kp _ _ λg tk2 u kg ku=>?_))
  dsimp only
  have nk2:=kg _ _ hk'
  have s2:=Heap.SameBut.update g kS (Obj.mapSeq (·.push u))
  obtain⟨c2,hc2⟩:∃ c2,(g.update kS (Obj.mapSeq (·.push u))).get? kS=some (seqObj "list" (kA.push u) c2):=⟨_,get?_update_seq nk2 (·.push u)⟩
  have ek:ks.take (j+1)=ks.take j++[k]:=by rw[List.take_add_one,hkj]; simp
  have ea:(kA.push u).toList=kA.toList++[u]:=by simp
  have tp:∀ b o,g.get? b=some o->o.cls=.type "tuple"->(g.update kS (Obj.mapSeq (·.push u))).get? b=some o:=λb o e1 e2=>(s2.2 b (λz=>by rw[z,nk2]at e1; cases e1; simp at e2)).trans e1
  refine wpAny_bind (listUpdate_at nk2 rfl ?_ (by lia) (by rw[Array.size_push]; lia))
  refine wQ ⟨rfl,_,_,kA.push u,c2,rfl,λb o hb e=>(s2.2 b (nk b o e)).trans (kg _ _ (kp b o hb e)),(s2.2 a hka.symm).trans (kg _ _ ha'),hc2,?_⟩
  rw[ea,ek]
  exact((hks.keeps λb o e _=>kg b o e).keeps tp).snoc (ku.keeps tp)
 case done =>
  rintro s' ⟨h',tk,kA,e,rfl,kp,ha',hk',hks⟩
  rw[List.take_of_length_le (by lia)]at hks
  have hza:kA.toList.length=vs.length:=(Paired.length hks).trans hlen
  refine wB (listItems_at hk' rfl ?_)
  have tail:∀ st:SortSt,(arrOf st).map (·.2)=((Ts.sortIx vs.length (cq ks)).map λi=>vs.getD i Value.none).toArray->failedOf st=none->wpAny (model prog w) A (ksk_tail a false e1 (.ref kS) st) PP E { s with heap:=h',toks:=tk }:=by
   intro st e3 e4
   unfold ksk_tail
   dsimp only
   have s2:=Heap.SameBut.update h' kS (Obj.mapSeq λ_=>(#[]:Array Value))
   have a2:(h'.update kS (Obj.mapSeq λ_=>(#[]:Array Value))).get? a=some (seqObj "list" #[] e1):=(s2.2 a hka.symm).trans ha'
   refine wpAny_bind (listUpdate_at hk' rfl ?_ (by rw[<- Array.length_toList]; lia) (Nat.zero_le _))
   refine wB (wpAny_letGo ?_)
   refine wB (seqEpoch_at a2 rfl ?_)
   rw[e3,e4]
   simp only[bne_self_eq_false,Bool.false_eq_true,if_false]
   refine wpAny_bind (listUpdate_at a2 rfl ?_ (Nat.zero_le _) (by simp[Ts.sortIx_len]; lia))
   have s3:=Heap.SameBut.update (h'.update kS (Obj.mapSeq λ_=>(#[]:Array Value))) a (Obj.mapSeq λ_=>((Ts.sortIx vs.length (cq ks)).map λi=>vs.getD i Value.none).toArray)
   obtain⟨c3,hc3⟩:∃ c3,((h'.update kS (Obj.mapSeq λ_=>(#[]:Array Value))).update a (Obj.mapSeq λ_=>((Ts.sortIx vs.length (cq ks)).map λi=>vs.getD i Value.none).toArray)).get? a=some (seqObj "list" ((Ts.sortIx vs.length (cq ks)).map λi=>vs.getD i Value.none).toArray c3) :=
    ⟨_,get?_update_seq a2 λ_=>((Ts.sortIx vs.length (cq ks)).map λi=>vs.getD i Value.none).toArray⟩
   exact wQ (h _ _ c3 (λb o hb e=>(s3.2 b hb).trans ((s2.2 b (nk b o e)).trans (kp b o hb e))) hc3)
  unfold ksk_end
  simp only[Bool.false_eq_true,if_false]
  have ekA:kA=kA.toList.toArray:=by simp
  by_cases h2:vs.toArray.size < 2
  ·rw[if_pos h2,if_pos h2]
   refine wB (wQ ?_)
   rw[StateT.run_pure]
   refine wB (wQ ?_)
   dsimp only
   refine tail _ ?_ rfl
   rw[Ts.sortIx_small (by simpa using h2),zbQ]
   show(kA.zip vs.toArray).map (·.2)=vs.toArray
   refine Array.toList_inj.mp ?_
   rw[Array.toList_map,Array.toList_zip,List.toList_toArray]
   exact List.map_snd_zip (by rw[hza]; simp)
  ·rw[if_neg h2,if_neg h2]
   rw[List.size_toArray]at h2
   obtain⟨fs,kt,kl,ki⟩:=hks.tups
   rw[ekA]
   have ask:wpAny (model prog w) A (keyKind' kA.toList.toArray) (λκ s'=>κ=tuples' true/\s'={ s with heap:=h',toks:=tk }) E { s with heap:=h',toks:=tk } :=
    PySem.W.kat_kind (T:=.type "str") kt (by lia) (λv hv=>by obtain⟨i,t,rfl⟩:=ki v hv; exact PySem.W.Looks.of_pure rfl) (by rfl) ⟨by rfl,rfl⟩
   refine wB (wpAny_mono ask (λκ s0 hk=>?_) λ_ _ x=>x)
   obtain⟨rfl,rfl⟩:=hk
   refine wB (keys_run (s:={ s with heap:=h',toks:=tk }) hks hza (by lia) λst a1 a2 a3=>tail st a1 a3)
end
section
variable {prog:Program}{w:World}{A:Around}{E:Value->Shared->Prop}{s:Shared}
theorem zi9{l:Addr}{vs:List Value}{Q:List Value->Shared->Prop}(hl:IsTup s.heap l vs.toArray)(hz:vs.length<=sizeLine)
  (h:∀ h',(∀ b o,s.heap.get? b=some o->h'.get? b=some o)->Q vs { s with heap:=h' }):wpAny (model prog w) A (collect (.ref l)) Q E s:=by
 obtain⟨o,eo,ec,n,ed⟩:=hl
 unfold collect
 refine wB (wpAny_runValue (codeAny_builtin entry_proto_collect' ?_))
 show wpAny _ _ (do again (.builtin "list.__iadd__" ⟨[<- newList [],.ref l],[]⟩)) _ _ s
 refine wB (wpAny_newList (wQ ⟨Code.quiet_builtin _ (by decide +kernel),codeAny_builtin entry_list_iadd' ?_⟩))
 show wpAny _ _ (Builtin.List.listExtendWith (.ref s.heap.objs.size) (.ref l) (.ref s.heap.objs.size)) _ _ { s with heap:=s.heap.push (seqObj "list" #[] 0) }
 unfold Builtin.List.listExtendWith
 have eo':(s.heap.push (seqObj "list" #[] 0)).get? l=some o:=Heap.get?_push_of_some _ eo
 refine wpAny_bind (wpAny_typeOf (T:="tuple") ⟨o,eo',ec⟩ ?_)
 rw[if_pos (by rw[show(Value.type "tuple"==Value.type "tuple")=true from rfl]; simp)]
 refine wB (listItems_at eo' ed ?_)
 refine wB (listItems_at (xs:=#[]) (n:=0) (hPz _ rfl) rfl ?_)
 rw[if_neg (by simp)]
 refine wpAny_bind (listUpdate_at (xs:=#[]) (n:=0) (Heap.get?_push_size _ rfl) rfl ?_ (Nat.zero_le _) (by simp; lia))
 refine wQ ?_
 show wpAny (model prog w) A (load s.heap.objs.size >>= λo=>_) Q E _
 refine wB (wpAny_load (get?_update_seq (hPz _ rfl) _) ?_)
 show wpAny _ _ (pure ((#[]:Array Value)++vs.toArray).toList) Q E _
 rw[show((#[]:Array Value)++vs.toArray).toList=vs by simp]
 refine wQ (h _ λb p e=>?_)
 have lt:=hLz e
 rw[Heap.get?_update_ne _ _ _ _ (Nat.ne_of_lt lt)]
 exact hPs _ e
theorem sorted_key{t f:Addr}{vs:List Value}{ks:List (Str×List Int)}{Q:Value->Shared->Prop}(ht:IsTup s.heap t vs.toArray)(hlen:ks.length=vs.length)(hz:vs.length<=sizeLine)
  (turn:∀ (i:Nat) (v:Value) (k:Str×List Int),vs[i]?=some v->ks[i]?=some k->∀ (h:Heap) (tk:Nat),(∀ b o,s.heap.get? b=some o->h.get? b=some o)->∀ Q E:Value->Shared->Prop,
   (∀ h' tk' u,(∀ b o,h.get? b=some o->h'.get? b=some o)->zgn h' u k->Q u { s with heap:=h',toks:=tk' })->wpAny (model prog w) A.in1.in1 (call (.ref f) [v]) Q E { s with heap:=h,toks:=tk })
  (h:∀ (h1 h':Heap) (tk:Nat) (p:Addr) (e:Nat),(∀ b o,s.heap.get? b=some o->h1.get? b=some o)->(∀ b o,h1.get? b=some o->h'.get? b=some o)->h1.objs.size<=p ->
   h'.get? p=some (seqObj "list" ((Ts.sortIx vs.length (cq ks)).map λi=>vs.getD i Value.none).toArray e)->Q (.ref p) { s with heap:=h',toks:=tk }) :
  wpAny (model prog w) A (call (.builtin "sorted") [.ref t] [(Str.ofString "key",.ref f)]) Q E s:=by
 refine call_function_entry_kw kind_sorted plain_sorted entry_sorted (ksk_s1 _ _) ?_
 unfold Builtin.«sorted»
 refine wpAny_bind (m:=checkCount "sorted" 1 1 _) (wpAny_pure ?_)
 refine wB (zi9 ht hz λh1 k1=>?_)
 refine wB (wpAny_newList ?_ hz)
 have hoL:(h1.push (seqObj "list" vs.toArray 0)).get? h1.objs.size=some (seqObj "list" vs.toArray 0):=Heap.get?_push_size _ rfl
 refine wpAny_bind (wpAny_holding (wpAny_call_entry_kw (s:={ s with heap:=h1.push (seqObj "list" vs.toArray 0) }) slot_list_sort ⟨_,hoL,rfl⟩ entry_list_sort ?body (ksk_l1 _ _)))
 case body =>
  show wpAny (model prog w) A.in1.in1 (Builtin.«list.sort» ⟨[.ref h1.objs.size],[(Str.ofString "key",.ref f)]⟩) _ _ _
  rw[ksk_t1]
  refine key_sort hoL hlen hz (λi v k hv hk g tk kp Q' E' q=>turn i v k hv hk g tk (λb o e=>kp b o (nNl (hLz (k1 b o e))) (hPs _ (k1 b o e))) Q' E' q) λh' tk c kp e=>⟨_,rfl,?_⟩
  exact wQ ⟨_,rfl,h h1 h' tk _ c k1 (λb o e=>kp b o (nNl (hLz e)) (hPs _ e)) (nLr _) e⟩
end
end L2
namespace L3
open PySem PySem.Spec PyProof.Rows L2
section
variable {X:Cx}{c:Expr}{body:List Stmt}{tc:TT3}{tb:TS3}{pos:Pos}
end
section
variable {X:Cx}{pos:Pos}{k v:Expr}{keys:List (Option Expr)}{values:List Expr}{trs:List (TE3×TE3)}{tk tv:TE3}
end
structure Mkr(X:Cx)(c P:Addr):Prop where
 code:X.env.code=.ref c
 hd:W.CodeHd X.base c P
 bm:X.base.BuiltinsAt X.mg P
noncomputable def tab1(pos:Pos)(c:Addr):Array Value:=#[rawInt pos.line,rawInt pos.col,.ref c]
noncomputable def zfZ(P:Addr)(q:Str)(pos:Pos)(H H':Hp):Prop :=
 H'=H∨∃ c oc vs t,H c=none/\H P=some (.tbl #[])/\oc.data=.fields vs/\vs[1]?=some (.str q t)/\H'=upd (upd H c (.frz oc (.own c))) P (.tbl (tab1 pos c))
theorem zfZ.kp{P:Addr}{q:Str}{pos:Pos}{H H':Hp}(h:zfZ P q pos H H'):Kp H H':=by
 rcases h with rfl | ⟨c,oc,vs,t,hc,hP,e1,e2,rfl⟩
 ·exact Kp.refl _
 ·refine (Kp.new (o:=.frz oc (.own c)) hc).trans ⟨λb xs e=>?_,λb o u e m=>?_⟩
  ·rw[zak]; exact e
   rintro rfl
   rw[zak (zap hP hc),hP]at e; cases e
  ·rw[zak]; exact e
   rintro rfl
   rw[zak (zap hP hc),hP]at e; cases e
theorem zfZ.hr{K:KW}{P:Addr}{q:Str}{pos:Pos}{H H':Hp}{G:Gp}(h:zfZ P q pos H H')(r:HR K H G)(g:G P=some (.tab q pos)):HR K H' G:=by
 have kp:=h.kp
 rcases h with rfl | ⟨c,oc,vs,t,hc,hP,e1,e2,rfl⟩
 ·exact r
 ·intro a o e
  by_cases z:a=P
  ·subst z
   rw[g]at e; cases e
   refine⟨_,zal,.inr ⟨c,oc,vs,t,rfl,?_,e1,e2⟩⟩
   rw[zak (zap hP hc).symm,zal]
  ·refine (r a o e).at kp ?_
   rw[zak z,zak]
   rintro rfl
   have:=r.free hc
   rw[e]at this; cases this
section
variable {X:Cx}{pins:List (Addr×Obj)}{σ:L2.St}{H:Hp}{s:Shared}
theorem lam_make{c P:Addr}{qual x:Str}{n:Nat}{pa p1 p2 p3 p4 pos:Pos}{ps:Array Value}{E:Value->Shared->Prop}{Q:Value->Shared->Prop}(M:Mkr X c P)(I:Inv X pins σ H s)(hP:H P=some (.tbl ps))(ht:Tab H qual pos ps)
  (hq:X.env.qual++"<lambda>"=qual) (hcl:closureFor (lamS x) X.env=pure []) (hdf:defaultsOf (lamA x pa) X.env=([],[]))
  (h:∀ (s':Shared) (H':Hp) (f c':Addr) (pm ctv:Value),(∃ h' tk,s'={ s with heap:=h',toks:=tk })->(∀ b o,b≠P->s.heap.get? b=some o->s'.heap.get? b=some o)->Inv X pins σ H' s'->zfZ P qual pos H H'->s'.heap.get? f=some (PySem.W.kla_obj "<lambda>" qual (lamA x pa) (lamB x n p1 p2 p3 p4) (lamS x) [] pm c' ctv)->s'.heap.CodeRec (.ref c') qual->Q (.ref f) s') :
  wpAny (model X.prog X.w) X.A (eval (.Lambda (lamA x pa) (lamB x n p1 p2 p3 p4) (lamS x) pos) X.env) Q E s:=by
 refine PySem.W.kla_eval hdf ?_
 rw[hq]
 have hns:=I.ok.mod.glob.keeps I.bk
 have hPo:s.heap.get? P=some (PySem.W.tabObj ps):=I.hok P _ hP
 obtain⟨bm,ob,b1,b2,b3,b4,b5,b6⟩:=M.bm
 have hgP:mainGlobals≠P:=λz=>by
  obtain⟨o,es,ep,e,hd,_⟩:=hns
  rw[z,hPo]at e; cases e; cases hd
 have hB:s.heap.BuiltinsAt X.mg P:=⟨bm,ob,b1,b2,b3,b4,I.bk _ _ b5,b6⟩
 rcases ht with rfl | ⟨c',oc,vs,t,rfl,hc',d1,d2⟩
 ·refine PySem.W.kla_makeFunction (mg:=X.mg) (clos:=[]) hcl I.ok.glob hns M.code (M.hd.keeps I.bk) hPo trivial rfl hgP hB λc' ctv h' tk hx hge hlt hrec htb=>?_
  obtain⟨c₂,oc,vs,t,e2,hoc,d1,d2⟩:=id hrec
  cases e2
  have hcn:H c'=none:=I.hok.fresh hge
  have hne:c'≠P:=(zap hP hcn).symm
  have keep:∀ b o,b≠P->s.heap.get? b=some o->(h'.push (PySem.W.kla_obj "<lambda>" qual (lamA x pa) (lamB x n p1 p2 p3 p4) (lamS x) [] ((X.mg "__name__").getD .none) c' ctv)).get? b=some o:=λb o hb e=>Heap.get?_push_of_some _ (hx b o hb e)
  have hP':(h'.push (PySem.W.kla_obj "<lambda>" qual (lamA x pa) (lamB x n p1 p2 p3 p4) (lamS x) [] ((X.mg "__name__").getD .none) c' ctv)).get? P=some (PySem.W.tabObj (tab1 pos c')):=Heap.get?_push_of_some _ (by simpa [tab1] using htb)
  have nP:∀ b,H b=none->b≠P:=λb e z=>by rw[z,hP]at e; cases e
  have nc:∀ b o,s.heap.get? b=some o->b≠c':=λb o e=>nNl (nLl (hLz e) hge)
  have nc2:∀ b u,H b=some u->b≠c':=λb u e z=>by rw[z,hcn]at e; cases e
  have same:∀ b,b≠P->b≠c'->upd (upd H c' (.frz oc (.own c'))) P (.tbl (tab1 pos c')) b=H b:=λb z1 z2=>by rw[zak z1,zak z2]
  refine h _ (upd (upd H c' (.frz oc (.own c'))) P (.tbl (tab1 pos c'))) h'.objs.size c' _ ctv ⟨_,tk,rfl⟩ keep ?_ (.inr ⟨c',oc,vs,t,hcn,hP,d1,d2,rfl⟩) (hPz _ rfl) ⟨c',oc,vs,t,rfl,hPs _ hoc,d1,d2⟩
  refine I.step (g':=s.gens) (d':=s.drawn) (ch:=[]) (λ_ z=>nomatch z) (λb o _ _ _ e hn=>keep b o (nP b hn) e) (λb o _ _ _ e hn=>⟨o.slots,keep b o (nP b hn) e⟩) (λb o _ e hn=>(same b (nP b hn) (nc b o e)).trans hn)
   (λb o _ e=>?_) (λb xs e=>?_) (λb o u e=>?_) (λb qs e=>?_) (λm hm=>?_) (λb o e=>?_) I.bare
  ·by_cases z:b=P
   ·subst z; exact⟨_,hP'⟩
   ·exact⟨o,keep b o z e⟩
  ·rw[same b (λz=>by rw[z,hP]at e; cases e) (nc2 b _ e)]; exact e
  ·rw[same b (λz=>by rw[z,hP]at e; cases e) (nc2 b _ e)]; exact e
  ·by_cases z:b=P
   ·subst z
    rw[hP]at e; cases e
    exact⟨tab1 pos c',by rw[zal]; simp⟩
   ·exact⟨#[],by rw[same b z (nc2 b _ e),e]; simp⟩
  ·obtain⟨o,es,ep,e,r⟩:=hm
   exact⟨o,es,ep,keep _ o (nP _ I.free) e,r⟩
  ·by_cases z:b=P
   ·subst z
    rw[zal]at e; cases e
    exact hP'
   ·by_cases z2:b=c'
    ·subst z2
     rw[zak z,zal]at e; cases e
     exact⟨hPs _ hoc,oc,hPs _ hoc⟩
    ·rw[same b z z2]at e
     refine (I.hok b o e).stay (λd v hd q=>keep d v ?_ q) (λd q=>?_) λd xs q=>?_
     ·rcases hd with rfl | hd
      ·exact z
      ·rintro rfl; rw[hP]at hd; cases hd
     ·rw[same d (λz=>by rw[z,hP]at q; cases q) (nc2 d _ q)]; exact q
     ·rw[same d (λz=>by rw[z,hP]at q; cases q) (nc2 d _ q)]; exact q
 ·have hco:s.heap.get? c'=some oc:=(I.hok c' _ hc').1
  refine PySem.W.kla_makeFunctionHit (mg:=X.mg) (clos:=[]) (cv:=.ref c') hcl I.ok.glob hns M.code (M.hd.keeps I.bk) hPo (by simp[TriplesOk,rawInt]) (by simp[codeAmong,rawInt]) hB λctv h' tk kp hsz=>?_
  have keep:∀ b o,s.heap.get? b=some o->(h'.push (PySem.W.kla_obj "<lambda>" qual (lamA x pa) (lamB x n p1 p2 p3 p4) (lamS x) [] ((X.mg "__name__").getD .none) c' ctv)).get? b=some o:=λb o e=>Heap.get?_push_of_some _ (kp b o e)
  exact h _ H h'.objs.size c' _ ctv ⟨_,tk,rfl⟩ (λb o _ e=>keep b o e) (I.kept (t':=tk) keep) (.inl rfl) (hPz _ rfl) ⟨c',oc,vs,t,rfl,keep _ _ hco,d1,d2⟩
end
noncomputable def lkey:T->Option (Str×List Int)
 | .tup [.str x,.int a]=>some (x,[a])
 | .tup (.str x::.int a::.int b::_)=>some (x,[a,b])
 | _=>none
noncomputable def keysOf(ts:List T):List (Str×List Int):=ts.map λt=>(lkey t).getD k0
noncomputable def srtK(ts:List T):List T:=(Ts.sortIx ts.length (cq (keysOf ts))).map λi=>ts.getD i .non
theorem den_key{K:KW}{H:Hp}{v:V}{t:T}{k:Str×List Int}(d:Den K H v t)(h:lkey t=some k):∃ a ys,v=.ref a/\SqT K.k H a ys/\∀ us,zaM ys us->∃ tk ws,us.take 3=Value.str k.1 tk::ws/\IntsAre ws k.2:=by
 unfold lkey at h
 split at h
 ·cases h
  cases d with
  | tup q ds =>
   rename_i a ys
   refine⟨a,ys,rfl,q,λus r=>?_⟩
   cases ds with
   | cons d1 ds=>cases ds with
    | cons d2 ds =>
     cases ds; cases d1; cases d2
     cases r with
     | cons r1 r=>cases r with
      | cons r2 r =>
       cases r
       obtain⟨t1,rfl⟩:=r1
       obtain⟨t2,rfl⟩:=r2
       exact⟨t1,_,rfl,.cons _ t2 .nil⟩
 ·cases h
  cases d with
  | tup q ds =>
   rename_i a ys
   refine⟨a,ys,rfl,q,λus r=>?_⟩
   cases ds with
   | cons d1 ds=>cases ds with
    | cons d2 ds=>cases ds with
     | cons d3 ds =>
      cases d1; cases d2; cases d3
      cases r with
      | cons r1 r=>cases r with
       | cons r2 r=>cases r with
        | cons r3 r =>
         obtain⟨t1,rfl⟩:=r1
         obtain⟨t2,rfl⟩:=r2
         obtain⟨t3,rfl⟩:=r3
         exact⟨t1,_,rfl,.cons _ t2 (.cons _ t3 .nil)⟩
 ·cases h
theorem zjO{K:KW}{H:Hp}{xs:List V}{ts:List T}(d:Dens K H xs ts):∀ {is:List Nat},(∀ i∈is,i < ts.length)->Dens K H (is.map λi=>xs.getD i .non) (is.map λi=>ts.getD i .non)
 | [],_=>.nil
 | i::r,h=>by
  have hi:=h i (List.mem_cons_self ..)
  obtain⟨v,e,dv⟩:=d.get (lGe hi)
  refine .cons ?_ (zjO d λj hj=>h j (lMc _ hj))
  show Den K H (xs.getD i .non) (ts.getD i .non)
  rw[List.getD_eq_getElem?_getD,List.getD_eq_getElem?_getD,e,List.getElem?_eq_getElem hi]
  exact dv
section
variable {X:Cx}{e:Expr}{pos p kp:Pos}{t:TA3}
noncomputable def wSortK(P:Addr)(q:Str)(lp:Pos)(t:TA3):TE3:=λτ G Q=>t τ G λts G1=>match ts with
 | [.tup us]=>G1 P=some (.tab q lp)/\(∀ u∈us,(lkey u).isSome=true)/\∀ l,G1 l=none->Q (.ref l) (updG G1 l (.lst (srtK us)))
 | _=>False
theorem qsortK{c P:Addr}{qual x:Str}{pa p1 p2 p3 p4 lp:Pos}{k:Nat}(M:Mkr X c P)(hr:Room k X.A)(hm:X.mg "sorted"=none) (ha:QA X [e] t) (hg:Gl X "sorted":=by rfl)
  (hq:X.env.qual++"<lambda>"=qual:=by rfl) (hcl:closureFor (lamS x) X.env=pure []:=by rfl) (hdf:defaultsOf (lamA x pa) X.env=([],[]):=by rfl) (hd:(x==("__debug__":Str))=false:=by decide)
  (hb:∀ v pm cd ctv:Value,bindArgs (PySem.W.kla_fn "<lambda>" qual (lamA x pa) (lamB x 3 p1 p2 p3 p4) (lamS x) [] pm cd ctv) ⟨[v],[]⟩=pure [(x,v)]:=by intros; rfl)
  (he:backTo pos (starEach [e] X.env)=(false,eval e X.env)::backTo pos (starEach [] X.env):=by rfl) :
  QE X (.Call (.Name "sorted" p) [e] [⟨some "key",.Lambda (lamA x pa) (lamB x 3 p1 p2 p3 p4) (lamS x) lp,kp⟩] pos) (wSortK P qual lp t):=by
 intro pins s σ H Q I h
 obtain⟨τ,G,Q3,st,r,h,im⟩:=h
 refine wpAny_Call_Name_kw (ze2 I hg hm boot_sorted ?_)
 refine PyProof.Rows.callWith_kw (thn (ha pos pins s σ H (λvs H1=>∃ ts G1,(match ts with
  | [.tup us]=>G1 P=some (.tab qual lp)/\(∀ u∈us,(lkey u).isSome=true)/\∀ l,G1 l=none->Q3 (.ref l) (updG G1 l (.lst (srtK us)))
  | _=>False)/\Kp H H1/\Dens X.kw H1 vs ts/\HR X.kw H1 G1) I ⟨τ,G,_,st,r,h,λts G1 vs H1 h1 k1 d1 r1=>⟨ts,G1,h1,k1,d1,r1⟩⟩) λus s1 ⟨vs,H1,I1,rv1,ts,G1,h1,k1,d1,r1⟩=>?_) he (by rw[he]; rfl) rfl rfl
 split at h1
 ·rename_i ls
  obtain⟨gP,hl,q⟩:=h1
  cases d1 with
  | cons d1 d2 =>
  cases d2
  obtain⟨u1,rfl,ru⟩:∃ u,us=[u]/\zaK _ u:=by
   cases rv1 with
   | cons a b=>cases b; exact⟨_,rfl,a⟩
  obtain⟨ps,hP,tb⟩:=r1 P _ gP
  refine PyProof.Rows.kws_cons (lam_make M I1 hP tb hq hcl hdf λs2 H2 f c' pm ctv es kp2 I2 ts2 hf hcr=>PyProof.Rows.kws_nil ?_)
  have k2:=ts2.kp
  have r2:=ts2.hr r1 gP
  cases d1 with
  | tup sq ds =>
  rename_i a xs
  cases ru
  have ds2:=ds.mono k2
  obtain⟨its,rv,tp,hz⟩:=I2.tuple (k2.sqT sq)
  have hlx:its.length=ls.length:=by rw[<- ds.length]; exact rv.length.symm
  show wpAny _ _ (call (.builtin "sorted") [.ref a] [(Str.ofString "key",.ref f)]) _ _ s2
  refine sorted_key (ks:=keysOf ls) tp (by unfold keysOf; rw[List.length_map,hlx]) (by rw[<- rv.length]; exact hz) (λi v kk hv hk g tk kg Q' E' q'=>?_) λh1 h' tk l e' kk1 kk2 hp e1=>?_
  ·unfold keysOf at hk
   rw[List.getElem?_map,Option.map_eq_some_iff]at hk
   obtain⟨tl,etl,ek⟩:=hk
   obtain⟨kt,ekt⟩:=Option.isSome_iff_exists.mp (hl tl (List.mem_of_getElem? etl))
   rw[ekt]at ek
   simp only[Option.getD_some]at ek
   subst ek
   obtain⟨y,ey,dy⟩:=ds2.get etl
   obtain⟨v',ev',rv'⟩:=rv.get ey
   rw[hv]at ev'; cases ev'
   obtain⟨b,ys,rfl,sb,hk2⟩:=den_key dy ekt
   cases rv'
   obtain⟨itb,rvb,tpb,hzb⟩:=I2.tuple sb
   obtain⟨tk1,ws,e3,iw⟩:=hk2 itb rvb
   have dp:=hr.dp
   refine lam_call (s:={ s2 with heap:=g,toks:=tk }) (n:=3) (its:=itb) (by show X.A.depth < _; lia) (I2.nolimit.keeps kg) (kg _ _ hf) ?_ (let ⟨o,e,r⟩:=tpb; ⟨o,kg _ _ e,r⟩) (by rw[<- rvb.length]; exact hzb) hd hb λh' tk' kA kp' tp'=>q' h' tk' _ kp' ⟨kA,tk1,ws,rfl,by rw[<- e3]; exact tp',iw⟩
   obtain⟨c2,oc,vs2,t2,e5,hoc,d5,d6⟩:=hcr
   exact⟨c2,oc,vs2,t2,e5,kg _ _ hoc,d5,d6⟩
  ·have I3:Inv X pins σ H2 { s2 with heap:=h1,toks:=tk }:=I2.kept kk1
   have hn:=I3.hok.fresh hp
   have hb2:∀ i∈Ts.sortIx its.length (cq (keysOf ls)),i < xs.length:=λi hi=>by rw[rv.length]; exact Ts.sortIx_lt hi
   have I4:Inv X pins σ (upd H2 l (.lst ((Ts.sortIx its.length (cq (keysOf ls))).map λi=>xs.getD i .non))) { s2 with heap:=h',toks:=tk } :=
    I3.laid (t':=tk) kk2 hp ⟨by rw[List.length_map,Ts.sortIx_len,<- rv.length]; exact hz,_,e',ziC rv hb2,e1⟩
   refine⟨.ref l,_,I4,rfl,im _ _ _ _ (q l (r2.free hn)) ((k1.trans k2).trans (Kp.new hn)) (.ref l) (r2.new (o:=.lst (srtK ls)) hn ⟨_,zal,?_⟩)⟩
   unfold srtK
   rw[<- hlx]
   exact(zjO ds2 λi hi=>by rw[<- hlx]; exact Ts.sortIx_lt hi).mono (Kp.new hn)
 ·exact h1.elim
end
end L3
namespace L2
open PySem PySem.Spec PyProof.Rows
theorem zbz.get{P:Program}{w:World}{H:Hp}{h:Heap}{a:Addr}{o:HO}(x:zbz P w H h a o):∃ ob,h.get? a=some ob:=by
 cases o with
 | lst xs=>obtain⟨_,_,_,_,e⟩:=x; exact⟨_,e⟩
 | tup xs=>obtain⟨_,_,_,ob,e,_⟩:=x; exact⟨_,e⟩
 | dK kvs=>obtain⟨_,_,_,_,o,_,_,e,_⟩:=x; exact⟨_,e⟩
 | dT kvs=>obtain⟨_,_,_,_,o,_,_,e,_⟩:=x; exact⟨_,e⟩
 | set S n=>obtain⟨o,_,_,_,e,_⟩:=x; exact⟨_,e⟩
 | ins C dx fs=>obtain⟨_,_,_,e,_⟩:=x; exact⟨_,e⟩
 | own y=>exact x
 | xd fs=>obtain⟨_,⟨_,_,_,e,_⟩,_⟩:=x; exact⟨_,e⟩
 | rng lo hi=>obtain⟨_,_,_,e⟩:=x; exact⟨_,e⟩
 | frz ob u=>obtain⟨e,_⟩:=x; exact⟨_,e⟩
 | tbl ps=>exact⟨_,x⟩
 | met f y=>exact⟨_,x⟩
 | ext φ=>obtain⟨_,e,_⟩:=x; exact e
noncomputable def Cov(fs:List Addr)(H:Hp)(h h' B:Heap):Prop:=∀ b o,h'.get? b=some o->((∃ o1,h.get? b=some o1)∨∃ u,H b=some u)->b∉fs->B.get? b=some o
theorem ziE{P:Program}{w:World}{fs fs':List Addr}{H H1:Hp}{h h1 h2 B:Heap}(u:Un fs [] H H1 h h1)(hok:HOk P w H1 h1)(cov:Cov fs' H1 h h1 B)(BS:B.StaysIn h2)
  (sm:∀ b o,b∈fs->h1.get? b=some o->∃ sl,h2.get? b=some { o with slots:=sl }) (nf:∀ b o,h.get? b=some o->b∈fs'->b∈fs) (fr:∀ b∈fs',H1 b=none) (sub:∀ b∈fs,b∈fs') :
  Un fs [] H H1 h h2/\HOk P w H1 h2/\Cov fs H1 h h2 B:=by
 have kp:∀ b o,h1.get? b=some o->((∃ o1,h.get? b=some o1)∨∃ u,H1 b=some u)->b∉fs->h2.get? b=some o/\B.get? b=some o:=λb o e z nb=>by
  have nb':b∉fs':=λq=>by
   rcases z with ⟨o1,z⟩ | ⟨v,z⟩
   ·exact nb (nf b o1 z q)
   ·rw[fr b q]at z; cases z
  have:=cov b o e z nb'
  exact⟨BS b o this,this⟩
 refine⟨⟨λb o e n hb hx=>?_,λb o e n hb hx=>?_,u.free,λb o e hx=>?_,u.tups,u.frzs,u.tbls⟩,λa v e=>?_,λb o e z nb=>?_⟩
 ·exact(kp b o (u.keep b o e n hb hx) (.inl ⟨o,e⟩) hb).1
 ·obtain⟨sl,e1⟩:=u.slot b o e n hb hx
  obtain⟨sl',e2⟩:=sm b _ hb e1
  exact⟨sl',e2⟩
 ·obtain⟨o',e1⟩:=u.there b o e hx
  by_cases hb:b∈fs
  ·obtain⟨sl',e2⟩:=sm b _ hb e1
   exact⟨_,e2⟩
  ·exact⟨_,(kp b o' e1 (.inl ⟨o,e⟩) hb).1⟩
 ·refine (hok a v e).stay (λb v' hb q=>?_) (λ_ q=>q) λ_ _ q=>q
  have z:∃ u,H1 b=some u:=by
   rcases hb with rfl | hb
   ·exact⟨_,e⟩
   ·exact⟨_,hb⟩
  refine (kp b v' q (.inr z) λhf=>?_).1
  obtain⟨u',z⟩:=z
  rw[fr b (sub b hf)]at z; cases z
 ·have hb:∃ o',h1.get? b=some o':=by
   rcases z with ⟨o1,z⟩ | ⟨v,z⟩
   ·exact u.there b o1 z (by simp)
   ·exact(hok b v z).get
  obtain⟨o',e1⟩:=hb
  obtain⟨e2,e3⟩:=kp b o' e1 z nb
  rw[e]at e2; cases e2
  exact e3
structure Fly(outer:List Env)(P:Program)(w:World)(H:Hp)(s:Shared)(C:Addr)(H':Hp)(ea:Addr)(s':Shared):Prop where
 os:s'.os=s.os
 bare:AllBare s'.gens
 un:Un (frs outer) [] H H' s.heap s'.heap
 hok:HOk P w H' s'.heap
 fl:∃ B a0,Heap.FlyingW B outer ea (.ref C) a0 s'.heap/\Cov (frs outer) H' s.heap s'.heap B
noncomputable def CXr(P:Program)(w:World):CXT:=λouter H s E e s'=>∃ ea C H',e=.ref ea/\Fly outer P w H s C H' ea s'/\E (.ref C) none H'
section
variable {X:Cx}{pins:List (Addr×Obj)}{σ:St}{H H':Hp}{s s':Shared}
theorem zjL{base:Heap}{l:List Env}{h h':Heap}(fl:h.FunFrames base l)(sm:h.UpToSlots h'):∀ b o,b∈frs l->h.get? b=some o->∃ sl,h'.get? b=some { o with slots:=sl }:=λb o hb e=>by
 obtain⟨_,o',e',nd⟩:=fl.mem hb
 rw[e]at e'; cases e'
 exact sm b o e nd
theorem Inv.raised(I:Inv X pins σ H s)(hst:X.stack=X.env::X.outer)(hfm:X.env.frame=some X.env.locals)(hex:X.ex=[]){h1:Heap}{e C:Addr}{args:List Value}(hx:Heap.MadeExcOf s.heap h1 e (.ref C) args){g:Array GenState}{d:Drawn}{t:Nat}
  {Q:Unit->Shared->Prop} {E:Value->Shared->Prop} (hQ:∀ s',Fly X.outer X.prog X.w X.H₀ X.s₀ C H e s'->Q () s') :
  wpAny (model X.prog X.w) X.A (leaving X.env (.ref e)) Q E { s with heap:=h1 }:=by
 have fr:=I.ok.frames
 have ff:=I.stack
 rw[hst]at fr ff
 have hin:∀ env∈(X.env::X.outer),∀ b,env.frame=some b->b∈frs (X.env::X.outer):=λenv he b hb=>List.mem_filterMap.mpr ⟨env,he,hb⟩
 refine wpAny_leaves_madeW (base:=W.hideAll s.heap (frs (X.env::X.outer))) fr hfm (λb o q=>W.of_hideAll _ q) (W.funFrames_hide ff hin) hx λh' t' fl _ _ sm=>?_
 have bs:=I.base
 rw[hex]at bs
 have nL:∀ b o,X.s₀.heap.get? b=some o->b∈frs (X.env::X.outer)->b∈X.fs:=λb o e hb=>by
  rw[<- hst]at hb
  rcases List.mem_cons.mp (I.stkSub b hb)with z | z
  ·exact absurd z (nNl (nLl (hLz e) I.ok.above))
  ·exact z
 have sub:∀ b∈X.fs,b∈frs (X.env::X.outer):=λb hb=>by
  show b∈List.filterMap _ _
  rw[List.filterMap_cons,hfm]
  exact lMc _ hb
 obtain⟨u,k,c⟩:=ziE (h2:=h') bs I.hok (λb o e _ nb=>W.hideAll_get _ e nb) fl.1 (λb o hb e=>by
  obtain⟨_,o',e',nd⟩:=I.funs.mem hb
  rw[e]at e'; cases e'
  exact sm b o (hx.keeps b o e) nd) nL (λb hb=>I.stkFree b (by rw[hst]; exact hb)) sub
 exact hQ _ ⟨I.os,I.bare,u,k,_,_,fl,c⟩
theorem Inv.flies(I:Inv X pins σ H s)(hst:X.stack=X.env::X.outer)(hfm:X.env.frame=some X.env.locals)(hex:X.ex=[]){e C:Addr}(F:Fly X.stack X.prog X.w H s C H' e s')
  {Q:Unit->Shared->Prop} {E:Value->Shared->Prop} (hQ:∀ s',Fly X.outer X.prog X.w X.H₀ X.s₀ C H' e s'->Q () s') :
  wpAny (model X.prog X.w) X.A (leaving X.env (.ref e)) Q E s':=by
 obtain⟨B,a0,fl,cov⟩:=F.fl
 have J:Inv X pins σ H' s':=I.call' F.os F.un F.hok F.bare λ_ z=>nomatch z
 have fr:=I.ok.frames
 rw[hst]at fr fl
 refine wpAny_leaves_onW fr hfm fl λh' fl' sm=>?_
 refine hQ _ ?_
 have bs:=J.base
 rw[hex]at bs
 have nL:∀ b o,X.s₀.heap.get? b=some o->b∈frs X.stack->b∈X.fs:=λb o e hb=>by
  rcases List.mem_cons.mp (I.stkSub b hb)with z | z
  ·exact absurd z (nNl (nLl (hLz e) I.ok.above))
  ·exact z
 have sub:∀ b∈X.fs,b∈frs X.stack:=λb hb=>by
  rw[hst]
  show b∈List.filterMap _ _
  rw[List.filterMap_cons,hfm]
  exact lMc _ hb
 obtain⟨u,k,c⟩:=ziE (h2:=h') bs J.hok (λb o e z nb=>cov b o e (z.imp (λhu=>by
   obtain⟨o1,z⟩:=hu
   have:=I.base.there b o1 z (by rw[hex]; simp)
   exact this) id) nb) fl'.1 (zjL J.funs sm) nL J.stkFree sub
 exact⟨J.os,J.bare,u,k,_,_,fl',c⟩
end
theorem passB{P:Program}{w:World}{K:PySem.W.Frag}{mg:Str->Option Value}{base:Heap}{N:List Str}{qual:Str}{scope:Scope}{f:Addr}{cd:Value}{A:Around}{outer:List Env}{s:Shared}{H:Hp}{E E':XK}
  (h:∀ v H',E' v none H'->E v none H'):zdv (CXr P w) (cxOf (CXr P w) P w K mg base N qual scope f cd A outer s H E) E':=λpins σ H1 s1 e s' I hu=>by
 obtain⟨ea,C,H',e1,F,q⟩:=hu
 subst e1
 exact I.flies rfl rfl rfl F λs'' F'=>⟨ea,C,H',rfl,F',h _ _ q⟩
noncomputable abbrev bmVE:List Value:=[.type "ValueError",.type "Exception",.type "BaseException",.type "object"]
theorem exc_obj{K:W.Frag}{h:Heap}{C:Addr}{bmB:List Value}{newId:String}(KI:K.In h)(q:W.excIn K C bmB newId=true) :
  ∃ bm N nm qn bs hdct sn sub ab col dd k0 k1 k2 k3 k5 mN,h.get? C=some (excClassObj nm qn C N bs bm hdct sn sub ab col dd k0 k1 k2 k3 k5 newId)/\h.Ns N mN/\mN "__init__"=none/\OwnTail h bmB bm:=by
 unfold W.excIn at q
 split at q
 rotate_left
 ·cases q
 rename_i dd cd sl ho
 split at q
 rotate_left
 ·cases q
 rename_i C1 bm k0 k1 k2 k3 n k5 hm hs
 simp only[Bool.and_eq_true,beq_iff_eq,Bool.not_eq_true']at q
 obtain⟨⟨⟨⟨⟨e1,e2⟩,e3⟩,e4⟩,e5⟩,e6⟩:=q
 cases cd with
 | mk nm bs mro ns qn hd sn sub ab col del =>
  dsimp only at hm e3 e5 e6
  obtain⟨ls⟩:=sl
  dsimp only at hs
  subst e1 e2 hm e3 hs
  exact⟨bm,ns,nm,qn,bs,hd,sn,sub,ab,col,dd,k0,k1,k2,k3,k5,h.nsMap ns,KI _ _ ho,.of_isNs (W.isNs_of_in KI e5),W.nsMap_none_of_in KI e5 e6,W.tail_of_in KI e4⟩
section
variable {P:Program}{w:World}{K:W.Frag}{mg:Str->Option Value}{base:Heap}{N:List Str}{qual:Str}{scope:Scope}{f:Addr}{cd:Value}{A:Around}{outer:List Env}{s:Shared}{H:Hp}{E:XK}
theorem ps_raise{C:Addr}{x:Str}{np cp cpos pos:Pos}{tx:Str}{j:Nat}(hm:mg x=some (.ref C))(q:PySem.W.excIn K C bmVE "ValueError.__new__"=true) (hg:Gl (cxOf (CXr P w) P w K mg base N qual scope f cd A outer s H E) x) (hd:(x==("__debug__":Str))=false) :
  PS (cxOf (CXr P w) P w K mg base N qual scope f cd A outer s H E) (.Raise (some (.Call (.Name x np) [.Constant (.str tx) j cp] [] cpos)) none pos) (λ_ _ H1=>E (.ref C) none H1):=by
 intro pins s1 σ H1 D I h
 obtain⟨bm,Nn,nm,qn,bs,hdct,sn,sub,ab,col,dd,k0,k1,k2,k3,k5,mN,hC,hN,hni,TL⟩:=exc_obj I.ok.mod.kin q
 refine wpAny_Raise_call_subT (mN:=mN) (C:=C) (nm:=nm) (q:=qn) (N:=Nn) (bs:=bs) (bm:=bm) (hdct:=hdct) (sn:=sn) (sub:=sub) (ab:=ab) (col:=col) (dd:=dd) (k0:=k0) (k1:=k1) (k2:=k2) (k3:=k3) (k5:=k5) PySem.F.excBase_ValueError (TL.hasType (X:="BaseException") (b:=true) (by decide)) (I.ok.hd rfl) rfl hni (zd5 I hg hm ⟨rfl,?_⟩ hd)
 have a:=(zeL (X:=cxOf (CXr P w) P w K mg base N qual scope f cd A outer s H E) (pe_str (x:=tx) (j:=j) (pos:=cp)) zjy) cpos pins s1 σ H1 (λvs H2=>vs.length<=1/\E (.ref C) none H2) I ⟨nLr _,h⟩
 refine Calls.evalArgs_plain (wpAny_mono a (λus s2 ⟨vs,H2,I2,r,l,q2⟩=>?_) λ_ _ z=>z)
 refine⟨rfl,?_,I2.bk _ _ hC,hN.keeps I2.bk,TL.keeps I2.bk,λh' e hm=>?_⟩
 ·show us.length<=sizeLine
  rw[<- r.length,sizeLine_eq]; lia
 ·exact I2.raised rfl rfl rfl hm (g:=s2.gens) (d:=s2.drawn) (t:=s2.toks) λs'' F=>⟨e,C,H2,rfl,F,q2⟩
end
end L2
namespace L3
open PySem PySem.Spec PyProof.Rows L2
noncomputable abbrev zff:=List T->Gp->Addr->Prop
noncomputable def Sub3(G G':Gp):Prop:=∀ a o,G a=some o->G' a=some o
noncomputable def lSpB(K:KW)(pre:zff):Sp:=λvs H _ E=>∃ ts G C,Dens K H vs ts/\HR K H G/\pre ts G C/\∀ H',HR K H' G->E (.ref C) none H'
noncomputable abbrev BOk(P:Program)(w:World)(K:W.Frag)(mg:Str->Option Value)(base:Heap)(k:Nat)(f:Addr)(fd:FuncData)(ps:List Str)(pre:zff):Prop:=FnOk P w K mg base (CXr P w) k f fd ps (lSpB ⟨K,w,P⟩ pre)
noncomputable abbrev cxB(P:Program)(w:World)(K:W.Frag)(mg:Str->Option Value)(base:Heap)(N:List Str)(qual:Str)(scope:Scope)(f:Addr)(cd:Value)(A:Around)(outer:List Env)(s:Shared)(H:Hp)(E:XK):Cx:=cxOf (CXr P w) P w K mg base N qual scope f cd A outer s H E
section
variable {P:Program}{w:World}{K:W.Frag}{mg:Str->Option Value}{base:Heap}
theorem okB{x qual:Str}{st:Stmt}{f:Addr}{fd:FuncData}{N ps:List Str}{k:Nat}{pre:zff}(F:Fun K x qual st f fd)(S:FnScope N ps (zac st))(len:∀ ts G C,pre ts G C->ts.length=ps.length)
  (hbody:∀ (cdv:Value) (A:Around) (outer:List Env) (s:Shared) (H:Hp) (E:XK) (G0:Gp) (C:Addr),Room k (A.deeper (envOfC qual (zac st) s.heap.objs.size f cdv))->(∀ H',HR ⟨K,w,P⟩ H' G0->E (.ref C) none H') ->
   ∃ t,QSs (cxB P w K mg base N qual (zac st) f cdv A outer s H E) (zdn st) t/\∀ ts,pre ts G0 C->t { nx:=λ_ _=>False,rt:=λ_ _=>False } (zad N.length ts) G0) :
  BOk P w K mg base (k+1) f fd ps pre:=by
 obtain⟨oc,od,kV,doc,pm,an,cdv,ct,osl,rfl,lk,hcd⟩:=F.ex
 refine fn_of lk hcd S (λvs H Q E hu=>(by obtain⟨ts,G,C,d,_,h,_⟩:=hu; exact d.length.trans (len ts G C h))) (λA outer s H vs Q E hr h=>?_)
 obtain⟨ts,G,C,d,r,h,hE⟩:=h
 obtain⟨t,h1,h2⟩:=hbody cdv A outer s H E G C hr hE
 refine⟨_,h1,zad N.length ts,G,_,Sts.start N d,r,h2 ts h,?_⟩
 exact⟨λ_ _ _ _ q _ _ _=>False.elim q,λ_ _ _ _ q _ _ _=>False.elim q,λ_ _ _ _ q _ _ _=>False.elim q,λ_ _ _ _ q _ _ _=>False.elim q⟩
variable {N:List Str}{qual:Str}{scope:Scope}{f:Addr}{cd:Value}{A:Around}{outer:List Env}{s:Shared}{H:Hp}{E:XK}{G0:Gp}{C0:Addr}
noncomputable def zfo(G0:Gp)(C0 C:Addr):TS3:=λ_ _ G=>C=C0/\Sub3 G0 G
theorem qraise{C:Addr}{x:Str}{np cp cpos pos:Pos}{tx:Str}{j:Nat}(hE:∀ H',HR ⟨K,w,P⟩ H' G0->E (.ref C0) none H')(hm:mg x=some (.ref C))(q:W.excIn K C bmVE "ValueError.__new__"=true)
  (hg:Gl (cxB P w K mg base N qual scope f cd A outer s H E) x:=by rfl) (hd:(x==("__debug__":Str))=false:=by decide) :
  QS (cxB P w K mg base N qual scope f cd A outer s H E) (.Raise (some (.Call (.Name x np) [.Constant (.str tx) j cp] [] cpos)) none pos) (zfo G0 C0 C) :=
 (ps_raise hm q hg hd).imp λD σ H1 ⟨τ,G,D3,_,r,⟨e,sb⟩,_⟩=>by subst e; exact hE H1 (r.sub sb)
noncomputable def zdp(C:Addr)(m:Str)(pre:zff)(G0:Gp)(C0:Addr)(ta:TE3)(t:TA3):TE3:=λτ G _=>ta τ G λx G1=>zg6 x C m G1 (t τ G1 λts G2=>pre (x::ts) G2 C0/\Sub3 G0 G2)
theorem lmethB{K:KW}{σ:L2.St}{H:Hp}{Q:VK}{C:Addr}{m:Str}{pre:zff}{ta:TE3}{t:TA3}(h:lE K (zdp C m pre G0 C0 ta t) σ H Q):tMeth C m (lSpB K pre) [] (λv _ H'=>v=.ref C0/\HR K H' G0) (lE K ta) (lA K t) σ H Q:=by
 obtain⟨τ,G,Q3,s,r,h,i⟩:=h
 refine⟨τ,G,_,s,r,h,λx G1 v H1 h1 k1 d1 r1=>?_⟩
 cases d1 with
 | ref q =>
  simp only[zg6]at h1
  split at h1
  ·rename_i C' fs e1
   obtain⟨⟨e2,e3⟩,h1⟩:=h1
   subst e2
   obtain⟨dx,xs,e4,F⟩:=r1 q _ e1
   refine⟨q,dx,xs,rfl,e4,F.lookupN e3,?_⟩
   exact⟨τ,G1,_,s.mono k1,r1,h1,λts G2 vs H2 hu k2 d2 r2=>(by obtain⟨h2,sb⟩:=hu; exact⟨.ref q::ts,G2,C0,by rw[List.append_nil]; exact .cons (.ref q) d2,r2,h2,λH' r'=>⟨rfl,r'.sub sb⟩⟩)⟩
  ·exact h1.elim
 | _=>exact False.elim h1
theorem zdY{E:XK}(hE:∀ H',HR ⟨K,w,P⟩ H' G0->E (.ref C0) none H'):zdv (CXr P w) (cxB P w K mg base N qual scope f cd A outer s H E) (λv _ H'=>v=.ref C0/\HR ⟨K,w,P⟩ H' G0):=passB λv H' ⟨e,r⟩=>by subst e; exact hE H' r
end
section
variable {X:Cx}{e o:Expr}{es:List Expr}{pos apos:Pos}{ta:TE3}{t:TA3}{k:Nat}{f C:Addr}{fd:FuncData}{ps:List Str}{m:Str}{pre:zff}{G0:Gp}{C0:Addr}
theorem qmethB{pl:Sem Bool}(he:QE X o ta)(c:Cls X.K C)(hm:Meth X.K C m f)(F:BOk X.prog X.w X.K X.mg X.base k f fd ps pre)(hr:Room k X.A)(hb:zcl X.K fd ps [])(hx:zdv (CXr X.prog X.w) X (λv _ H'=>v=.ref C0/\HR X.kw H' G0))(ha:QA X (e::es) t)
  (hst:starEach (e::es) X.env=(false,eval e X.env)::starEach es X.env:=by rfl) (hpl:(backTo pos (starEach es X.env)).any (·.1)=false:=by rfl)
  (ht:eval (.Call (.Attribute o m apos) (e::es) [] pos) X.env=(do
   let ov <- eval o X.env
   standAt apos.atName
   let (f,first) <- holding [ov] (getMethod ov m pl)
   callWith pos f first (backTo pos (starEach (e::es) X.env)) (backToKw pos (keywordEach [] X.env))):=by rfl) :
  QE X (.Call (.Attribute o m apos) (e::es) [] pos) (zdp C m pre G0 C0 ta t):=(pe_meth he c hm F hr hb .nil hx ha hst hpl ht).imp λσ H Q h=>lmethB h
end
end L3
namespace L2
open PySem PySem.Spec PyProof.Rows
def OfC(a C:Addr)(h:Heap):Prop:=∃ o,h.get? a=some o/\o.cls=.ref C
theorem OfC.looks{a C:Addr}{h:Heap}{M:Model}(x:OfC a C h):W.Looks M h (typeOf (.ref a)) (.ref C):=by
 obtain⟨o,h1,h2⟩:=x
 rw[<- h2]
 exact(W.Looks.ld h1).andThen .now
structure XCls(K:W.Frag)(C:Addr):Prop where
 ga:W.findIn K (.ref C) "__getattribute__"=some (some (.builtin "BaseException.__getattribute__"))
 gt:W.findIn K (.ref C) "__getattr__"=some none
 mb:W.mroIn K C (.type "BaseException")=some true
 hd:W.hasDictIn K C=true
 fc:W.findIn K (.ref C) "__class__"=some (some (.builtin "object.__class__"))
 mr:W.mroIn K C (.type "object")=some true
structure XKit(K:W.Frag):Prop where
 sp:W.specialIn K (.builtin "object.__class__") "__get__"=some (some (.builtin "getset_descriptor.__get__"))
 tk:W.takesIn K (.builtin "object.__class__")=some true
section
variable {K:W.Frag}{prog:Program}{w:World}{A:Around}{E:Value->Shared->Prop}{s:Shared}{a C:Addr}
theorem XCls.cls(c:XCls K C):∃ x y cd z,K.lookup C=some ⟨x,y,.cls cd,z⟩:=by
 obtain⟨cd,q,_⟩:=W.any_some c.hd
 unfold W.clsIn at q
 split at q
 ·rename_i ho; exact⟨_,_,_,_,ho⟩
 ·cases q
theorem exc_find{M:Model}{h:Heap}(X:K.In h)(c:XCls K C)(k:XKit K):W.Looks M h (PySem.Builtin.ObjectAttr.find (.ref a) (.ref C) "__class__") (.bind (.builtin "getset_descriptor.__get__") (.builtin "object.__class__")):=by
 have l1:=W.looks_findIn (M:=M) X c.fc
 have l2:W.Looks M h (PySem.Builtin.ObjectAttr.getOf (some (.builtin "object.__class__"))) (some (.builtin "getset_descriptor.__get__")):=W.looks_specialIn X k.sp
 have l3:=W.looks_takesIn (M:=M) X k.tk
 have l4:W.Looks M h (PySem.Builtin.ObjectAttr.dataDescriptor? (some (.builtin "object.__class__")) (some (.builtin "getset_descriptor.__get__"))) (some (.builtin "getset_descriptor.__get__",.builtin "object.__class__")):=l3.andThen .now
 exact l1.andThen (l2.andThen (l4.andThen (W.Looks.tag .now)))
open PySem.W PySem.Calls PySem.Builtin PySem.Builtin.ObjectAttr PySem.Builtin.Getset_descriptor in
theorem exc_cls{R:Result->Shared->Prop}{tp:Value}(X:K.In s.heap)(I:OfC a C s.heap)(c:XCls K C)(h:R (.ok (.ret (.ref C))) s) :
  codeAny (model prog w) A (.call (.builtin "getset_descriptor.__get__") ⟨[.builtin "object.__class__",.ref a,tp],[]⟩) R s:=by
 obtain⟨hp,gs,dr,tt,os⟩:=s
 have l0:=I.looks (M:=model prog w)
 have l1:=looks_mroIn (M:=model prog w) X c.mr
 refine codeAny_call_builtin KF.slot_gs.plain KF.entry_gs (KF.slot_gs.check _ _ _ _ _ _ _ _ KF.type_class (KF.args_gs _ _ _) ?_)
 unfold Builtin.«getset_descriptor.__get__» descrGet
 rw[dga_obj]
 refine wB (wQ ?_)
 unfold descrGetter descrCheckInstance descrNameAndClass isInstance
 simp only[KF.owner_class]
 repeat lk
 refine⟨Code.quiet_builtin _ (by decide +kernel),codeAny_builtin KF.entry_class ?_⟩
 unfold Builtin.«object.__class__» shownTypeOf
 repeat lk
 exact h
open PySem.W PySem.Calls PySem.Builtin PySem.Builtin.ObjectAttr in
theorem exc_check{n:Value}{M:Model}{Q:Unit->Shared->Prop}(X:K.In s.heap)(I:OfC a C s.heap)(c:XCls K C)(q:Q () s):wpAny M A (checkBuiltinCall "BaseException.__getattribute__" ⟨[.ref a,n],[]⟩) Q E s:=by
 obtain⟨hp,gs,dr,tt,os⟩:=s
 have l0:=I.looks (M:=M)
 have l1:=looks_mroIn (M:=M) X c.mb
 have hk:builtinKind "BaseException.__getattribute__"=some .slot:=by decide +kernel
 have hs:splitId "BaseException.__getattribute__"=some ("BaseException","__getattribute__"):=by decide +kernel
 have ha:=PySem.F.args_bexc_ga (.ref a) n
 simp only[checkBuiltinCall,hk,hs]
 unfold isInstance
 repeat (any_goals (first | assumption | lk | wp_step))
open PySem.W PySem.Calls PySem.Builtin PySem.Builtin.ObjectAttr in
theorem exc_entry{tk:Tok}{Q:Fin->Shared->Prop}(X:K.In s.heap)(I:OfC a C s.heap)(c:XCls K C)(k:XKit K)(q:Q (.done (.ret (.ref C))) s):wpAny (model prog w) A (Builtin.«object.__getattribute__» ⟨[.ref a,.str "__class__" tk],[]⟩) Q E s:=by
 obtain⟨hp,gs,dr,tt,os⟩:=s
 have l0:=I.looks (M:=model prog w)
 have l1:=exc_find (a:=a) (M:=model prog w) X c k
 unfold Builtin.«object.__getattribute__»
 repeat (first | with_reducible refine Looks.at (by assumption) ?_ | wp_step)
 refine exc_cls X I c ?_
 repeat (any_goals (first | assumption | wp_step))
open PySem.W PySem.Calls PySem.Builtin PySem.Builtin.ObjectAttr in
theorem exc_ga{tk:Tok}{R:Result->Shared->Prop}(X:K.In s.heap)(I:OfC a C s.heap)(c:XCls K C)(k:XKit K)(q:R (.ok (.ret (.ref C))) s) :
  codeAny (model prog w) A (.call (.builtin "BaseException.__getattribute__") ⟨[.ref a,.str "__class__" tk],[]⟩) R s :=
 codeAny_call_builtin PySem.F.attr_ValueError.ga.plain PySem.F.entry_bexc_ga (exc_check X I c (exc_entry X I c k q))
open PySem.W PySem.Calls PySem.Builtin PySem.Builtin.ObjectAttr in
theorem exc_attr{Q:Option Value->Shared->Prop}(X:K.In s.heap)(I:OfC a C s.heap)(c:XCls K C)(k:XKit K)(q:Q (some (.ref C)) { s with toks:=s.toks+1 }):wpAny (model prog w) A (getAttr? (.ref a) "__class__") Q E s:=by
 obtain⟨hp,gs,dr,tt,os⟩:=s
 have l0:=I.looks (M:=model prog w)
 have l1:=looks_findIn (M:=model prog w) X c.ga
 have l2:=looks_findIn (M:=model prog w) X c.gt
 have f3:=PySem.F.attr_ValueError.ga.bind (.ref a)
 have h2:(Value.builtin "BaseException.__getattribute__"==Value.builtin "object.__getattribute__")=false:=by decide +kernel
 have h1:(onTheHeap (Value.ref C)&&Value.builtin "BaseException.__getattribute__"==Value.builtin "object.__getattribute__")=false:=by rw[h2]; rfl
 unfold getAttr? getAttrBy? getAttrBy
 repeat (any_goals (first | assumption | with_reducible refine Looks.at (by assumption) ?_ | wp_step))
 refine exc_ga X I c k ?_
 exact handed_on rfl (wQ q)
theorem kit_exc(c:XCls K C)(k:XKit K):PySem.W.KitX K (.ref a) (.ref C) (OfC a C) where
 ty:=λ_ _ _ I=>I.looks
 it:=λ_ _ X _=>by
  obtain⟨_,_,_,_,ho⟩:=c.cls
  intro A' Q' E' s' st q
  unfold isType loadHead
  exact wB (wpAny_loadPart (st _ _ (X _ _ ho)) (wQ q))
 ne:=λh tp dd its n sl X htp=>by
  obtain⟨_,_,_,_,ho⟩:=c.cls
  refine Bool.eq_false_iff.mpr λq=>?_
  have e:C=tp:=Value.ref.inj (beq_iff_eq.mp q)
  rw[<- e]at htp
  have z:=(X _ _ ho).symm.trans htp
  cases z
 ca:=λ{prog w A E Q s} X I q=>exc_attr X I c k q
end
section
variable {X:Cx}{CX:CXT}{k:Nat}{f C:Addr}{fd:FuncData}{ps:List Str}{sp:Sp}{E:Hp->XK}{x n:Str}{p pos:Pos}{e:Expr}{es:List Expr}{t:TA}{pins:List (Addr×Obj)}{σ:St}{H:Hp}{s:Shared}
theorem call_at(F:FnOk X.prog X.w X.K X.mg X.base CX k f fd ps sp)(hr:Room k X.A)(hg:Gl X x)(hm:X.mg x=some (.ref f))(hk:W.keepIn X.K (.ref f)=true)(hb:zcl X.K fd ps [])(ha:PA X (e::es) t)(hnx:∀ v s,¬ X.xe v s)
  {Q:VK} {EX:Value->Shared->Prop} (I:Inv X pins σ H s) (h:t σ H λvs H1=>sp vs H1 Q (E H1)) (hx:∀ H1 s1 v s',Inv X pins σ H1 s1->CX X.stack H1 s1 (E H1) v s'->EX v s')
  (hdb:(x==("__debug__":Str))=false) (he:starEach (e::es) X.env=(false,eval e X.env)::starEach es X.env) (hpl:(backTo pos (starEach es X.env)).any (·.1)=false) :
  wpAny (model X.prog X.w) X.A (eval (.Call (.Name x p) (e::es) [] pos) X.env) (EP X pins σ Q) EX s:=by
 refine wpAny_Call_Name_kw (zd5 I hg hm ?_ hdb)
 refine W.callWith_K (h₀:=X.base) I.ok.mod.kin hk (wpAny_mono (ha pos pins s σ H _ I h) (λus s1 ⟨vs,H1,I1,r,q⟩=>⟨I1.kIn,?_⟩) λ_ _ z=>(hnx _ _ z).elim) he hpl
 have hl:(us++[]).length=ps.length:=by rw[List.append_nil,<- r.length]; exact F.len _ _ _ _ q
 have bt:=hb s1 us I1.kIn hl
 rw[List.append_nil]at bt
 refine wpAny_call (codeAny_mono (F.run X.A X.stack s1 H1 ⟨us,[]⟩ us vs Q (E H1) hr I1.env0 bt r q) λy s' hq=>?_)
 cases y with
 | error v=>exact hx H1 s1 v s' I1 hq
 | ok fl =>
  cases fl with
  | ret u=>exact I1.after hq
  | next=>exact False.elim hq
  | brk=>exact False.elim hq
  | cont=>exact False.elim hq
theorem Inv.goes{M:Model}{A:Around}{EX:Value->Shared->Prop}{i:Nat}{Q:Unit->Shared->Prop}(I:Inv X pins σ H s)(hN:X.N.Nodup)(hi:X.N[i]?=some n)(hl:X.env.kindOf n=some .local)(h:∀ s',Inv X pins (σ.set i none) H s'->Q () s') :
  wpAny M A (do bindName X.env n .none; unbindBehindTheSuite X.env n pos) Q EX s:=by
 obtain⟨m,hn,hlk⟩:=id I.loc
 obtain⟨oL,_,_,hoL,_⟩:=id hn
 refine wpAny_nameGoes_keeps hl hn (by rw[I.ok.kind]; rfl) λh' v hn' hs=>h _ ?_
 have nl:∀ b o,X.s₀.heap.get? b=some o->b≠X.env.locals:=λb o e=>nNl (nLl (hLz e) I.ok.above)
 refine⟨I.ok,I.os,I.bare,⟨λb o e z hb hx=>(hs.2 b (nl b o e)).trans (I.base.keep b o e z hb hx),λb o e z hb hx=>?_,I.base.free,λb o e hx=>?_,I.base.tups,I.base.frzs,I.base.tbls⟩,⟨_,hn',λj y v' e1 e2 e3=>?_⟩,λy c e=>?_,I.free,I.freeC,λq hq=>?_,λb o e=>?_,by simpa using I.len⟩
 ·obtain⟨sl,e1⟩:=I.base.slot b o e z hb hx
  exact⟨sl,(hs.2 b (nl b o e)).trans e1⟩
 ·obtain⟨o',e1⟩:=I.base.there b o e hx
  exact⟨o',(hs.2 b (nl b o e)).trans e1⟩
 ·by_cases hj:j=i
  ·subst hj
   by_cases hl:j < σ.length
   ·rw[List.getElem?_set_self hl]at e2; cases e2
   ·rw[List.getElem?_eq_none (by simpa using hl)]at e2; cases e2
  ·rw[List.getElem?_set_ne (Ne.symm hj)]at e2
   obtain⟨u,r,q⟩:=hlk j y v' e1 e2 e3
   refine⟨u,r,?_⟩
   rcases q with ⟨k1,e⟩ | ⟨k1,c,e,z⟩
   ·have:y≠n:=λz=>hj (zhi hN e1 (z ▸ hi))
    exact .inl ⟨k1,by simp[this,e]⟩
   ·exact .inr ⟨k1,c,e,z.sameBut hs (I.cne y c e)⟩
 ·obtain⟨u,z⟩:=I.cell y c e
  exact⟨u,z.sameBut hs (I.cne y c e)⟩
 ·obtain⟨e,z,ne,nf,d⟩:=I.pin q hq
  exact⟨(hs.2 q.1 ne).trans e,z,ne,nf,d⟩
 ·refine (I.hok b o e).stay (λc u hc q=>(hs.2 c ?_).trans q) (λ_ q=>q) λ_ _ q=>q
  intro z
  subst z
  rcases hc with z | z
  ·rw[<- z,I.free]at e; cases e
  ·rw[I.free]at z; cases z
noncomputable abbrev Cx.held(X:Cx)(ea:Addr)(oe:Obj):Cx:={ X with A:=X.A.mark (some (.ref ea)),calm:=false,pn:=(ea,oe)::X.pn }
theorem Inv.held{ea:Addr}{oe:Obj}(I:Inv X pins σ H s)(he:s.heap.get? ea=some oe)(hH:H ea=none)(ne:ea≠X.env.locals)(nf:ea∉X.fs)(nd:∀ v,oe.data≠.cell v):Inv (X.held ea oe) pins σ H s:=by
 refine⟨⟨I.ok.mod,I.ok.kind,I.ok.glob,I.ok.blt,I.ok.above,I.ok.inj,I.ok.has,I.ok.cab,(λz=>nomatch z),I.ok.frames,I.ok.stk,I.ok.exf,I.ok.bs,I.ok.bsz,I.ok.noex,I.ok.exfs,I.ok.funs,I.ok.frf⟩,I.os,I.bare,I.base,I.loc,I.cell,I.free,I.freeC,λq hq=>?_,I.hok,I.len⟩
 rcases List.mem_cons.mp hq with z | z
 ·subst z; exact⟨he,hH,ne,nf,nd⟩
 ·exact I.pin q z
theorem Inv.unheld{ea:Addr}{oe:Obj}(I:Inv (X.held ea oe) pins σ H s)(ok:X.Ok):Inv X pins σ H s:=⟨ok,I.os,I.bare,I.base,I.loc,I.cell,I.free,I.freeC,λq hq=>I.pin q (.tail _ hq),I.hok,I.len⟩
theorem Un.kp{fs ex:List Addr}{H H':Hp}{h h':Heap}(u:Un fs ex H H' h h'):L3.Kp H H':=⟨u.tups,λa o v q _=>u.frzs a o v q⟩
def tCatch(K:W.Frag)(R:Addr)(i:Nat)(sp:Sp)(t:TA)(u:Addr->Obj->TS):TS:=λD σ H=>t σ H λvs H1=>sp vs H1 (λ_ _=>False) λv _ H'=>∃ C,v=.ref C/\W.exmOne K (.ref C) (.ref R)=some true /\
 (L3.Kp H1 H'->∀ ea oe,oe.cls=.ref C->u ea oe { nx:=λσ'' H''=>D.nx (σ''.set i none) H'',rt:=λ_ _=>False } (σ.set i (some (.ref ea))) H')
theorem ps_catch(hst:X.stack=X.env::X.outer)(hfm:X.env.frame=some X.env.locals)(F:FnOk X.prog X.w X.K X.mg X.base (CXr X.prog X.w) k f fd ps sp)(hr:Room k X.A)(hg:Gl X x)(hm:X.mg x=some (.ref f))(hk:PySem.W.keepIn X.K (.ref f)=true)(hb:zcl X.K fd ps [])
  (ha:PA X (e::es) t) (hnx:∀ v s,¬ X.xe v s) {R:Addr} {rx:Str} {rp epos hpos tpos:Pos} {i:Nat} {b0:Stmt} {suite:List Stmt} {u:Addr->Obj->TS} (hgR:Gl X rx) (hR:X.mg rx=some (.ref R)) (hN:X.N.Nodup) (hi:X.N[i]?=some n) (hl:X.env.kindOf n=some .local)
  (hs:∀ ea oe,PSs (X.held ea oe) (b0::suite) (u ea oe)) (hdb:(x==("__debug__":Str))=false) (hdr:(rx==("__debug__":Str))=false) (he:starEach (e::es) X.env=(false,eval e X.env)::starEach es X.env) (hpl:(backTo pos (starEach es X.env)).any (·.1)=false)
  (hsw:swapsWith (.Call (.Name x p) (e::es) [] pos) none epos.line X.env=pure false) :
  PS X (.Try [.Expr (.Call (.Name x p) (e::es) [] pos) epos] [.ExceptHandler (some (.Name rx rp)) (some n) (b0::suite) hpos] [] [] tpos) (tCatch X.K R i sp t u):=by
 intro pins s σ H D I h
 refine wpAny_Try_except ?_
 refine wpAny_execs_cons (wpAny_Expr_any (wpAny_mono (call_at F hr hg hm hk hb ha hnx I h (λH1 s1 v s' I1 c=>?_) hdb he hpl) (λ_ _ hu=>(by obtain⟨_,_,_,_,z⟩:=hu; exact z.elim)) λ_ _ z=>z) I.quiet hsw)
 obtain⟨ea,C,H',rfl,Fl,C1,e2,hexm,cont⟩:=c
 cases e2
 obtain⟨B,a0,fl,cov⟩:=Fl.fl
 have fr:=I.ok.frames
 have ff:=fl.2.2.1
 have step:∀ h2:Heap,B.StaysIn h2->s'.heap.UpToSlots h2->Inv X pins σ H' { s' with heap:=h2 }:=λh2 st sm=>by
  have J:Inv X pins σ H' s':=I1.call' Fl.os Fl.un Fl.hok Fl.bare λ_ z=>nomatch z
  obtain⟨u1,k1,_⟩:=ziE (h2:=h2) Fl.un Fl.hok cov st (zjL ff sm) (λ_ _ _ z=>z) J.stkFree λ_ z=>z
  exact I1.call' (s':={ s' with heap:=h2 }) Fl.os u1 k1 Fl.bare λ_ z=>nomatch z
 have nfr:∀ h2:Heap,Heap.FlyingW B X.stack ea (.ref C) a0 h2->∀ o vs,h2.get? ea=some o->o.data=.fields vs->ea∉frs X.stack:=λh2 f2 o vs e1 e2 z=>by
  obtain⟨_,o',e3,nd⟩:=f2.2.2.1.mem z
  rw[e1]at e3; cases e3
  exact nd _ e2
 rw[hst]at fr fl
 refine wpAny_looks_onW fr hfm fl λh4 held4 sm4=>?_
 refine wpAny_landsW held4 λh5 fl5 sm5=>?_
 have hold:∀ h2:Heap,Heap.FlyingW B X.stack ea (.ref C) a0 h2->s'.heap.UpToSlots h2->∃ oe,oe.cls=.ref C/\h2.get? ea=some oe/\Inv (X.held ea oe) pins σ H' { s' with heap:=h2 }:=λh2 f2 sm=>by
  have J:=step h2 f2.1 sm
  obtain⟨oe,vs,e1,e2,e3,_⟩:=f2.first
  have nf:=nfr h2 f2 oe vs e1 e3
  have hH:H' ea=none:=by
   cases q:H' ea with
   | none=>rfl
   | some v =>
    exfalso
    obtain⟨o1,q1⟩:=(Fl.hok ea v q).get
    have:=cov ea o1 q1 (.inr ⟨v,q⟩) nf
    rw[f2.2.1]at this; cases this
  refine⟨oe,e2,e1,J.held e1 hH ?_ ?_ (by intro v z; rw[e3]at z; cases z)⟩
  ·intro z
   refine nf ?_
   rw[hst]
   show ea∈List.filterMap _ _
   rw[List.filterMap_cons,hfm,z]
   exact .head _
  ·intro z
   refine nf ?_
   rw[hst]
   show ea∈List.filterMap _ _
   rw[List.filterMap_cons,hfm]
   exact .tail _ z
 rw[<- hst]at fl5
 obtain⟨oe,ec,eo,J5⟩:=hold h5 fl5 (sm4.trans sm5)
 refine wpAny_handleBy_cons (codeAny_handlers_test (zd5 (X:=X.held ea oe) J5 hgR hR ?_ hdr)) (by intro q; cases q)
 refine (PySem.W.exm_one (h:=h5) J5.kIn (OfC.looks ⟨oe,eo,ec⟩) hexm) _ _ _ _ (λ_ _ z=>z) ?_
 refine codeAny_handlers_suite_as ?_
 refine lands_againW fl5 λh6 fl6 sm6=>?_
 obtain⟨oe6,ec6,eo6,J6⟩:=hold h6 fl6 ((sm4.trans sm5).trans sm6)
 refine zgR (X:=X.held ea oe6) (v:=.ref ea) J6 hN hi (.inl hl) rfl (λs7 I7=>?_) (.inr hl)
 refine wpAny_mono (hs ea oe6 pins s7 _ H' _ I7 (cont Fl.un.kp ea oe6 ec6)) (λf s8 q=>?_) λ_ _ z=>(hnx _ _ z).elim
 cases f with
 | next =>
  obtain⟨σ'',H'',I8,q⟩:=q
  exact(I8.unheld I.ok).goes hN hi hl λs9 I9=>⟨_,_,I9,q⟩
 | ret v=>obtain⟨_,_,_,_,_,z⟩:=q; exact z.elim
 | brk=>obtain⟨_,_,_,z⟩:=q; exact z.elim
 | cont=>obtain⟨_,_,_,z⟩:=q; exact z.elim
end
end L2
namespace L3
open PySem PySem.Spec PyProof.Rows L2
theorem Sts.unset{K:KW}{H:Hp}:∀ {σ:L2.St} {τ:St3} (i:Nat),Sts K H σ τ->Sts K H (σ.set i none) (τ.set i none)
 | _,_,_,.nil=>.nil
 | _,_,0,.no r=>.no r
 | _,_,0,.yes _ r=>.no r
 | _,_,i+1,.no r=>.no (Sts.unset i r)
 | _,_,i+1,.yes e r=>.yes e (Sts.unset i r)
def zjh(K:W.Frag)(R:Addr)(i:Nat)(pre:zff)(ta:TA3)(u:Addr->Obj->TS3):TS3:=λD τ G=>ta τ G λts G1=>∃ C,pre ts G1 C/\W.exmOne K (.ref C) (.ref R)=some true /\
 ∀ ea oe,oe.cls=.ref C->u ea oe { nx:=λτ'' G''=>D.nx (τ''.set i none) G'',rt:=λ_ _=>False } (τ.set i (some (.ref ea))) G1
theorem lCatch{K:KW}{R:Addr}{i:Nat}{pre:zff}{ta:TA3}{u:Addr->Obj->TS3}{D:Ends}{σ:L2.St}{H:Hp}(h:lS K (zjh K.k R i pre ta u) D σ H):tCatch K.k R i (lSpB K pre) (lA K ta) (λea oe=>lS K (u ea oe)) D σ H:=by
 obtain⟨τ,G,D3,s,r,h,im⟩:=h
 refine⟨τ,G,_,s,r,h,λts G1 vs H1 h1 k1 d1 r1=>?_⟩
 obtain⟨C,hp,hx,hu⟩:=h1
 refine⟨ts,G1,C,d1,r1,hp,λH' r'=>⟨C,rfl,hx,λkp ea oe ec=>⟨τ.set i (some (.ref ea)),G1,_,(s.mono (k1.trans kp)).set (.ref ea) i,r',hu ea oe ec,?_⟩⟩⟩
 exact⟨λτ'' G'' σ'' H'' q k sts hr=>im.nx _ G'' _ H'' q ((k1.trans kp).trans k) (sts.unset i) hr,λ_ _ _ _ q _ _ _=>False.elim q,λ_ _ _ _ q _ _ _=>False.elim q,λ_ _ _ _ q _ _ _=>False.elim q⟩
section
variable {X:Cx}{e:Expr}{es:List Expr}{p pos np dp:Pos}{t:TA3}{k:Nat}{f:Addr}{fd:FuncData}{ps:List Str}{x n:Str}{pre:zff}
theorem qcatch(hst:X.stack=X.env::X.outer)(hfm:X.env.frame=some X.env.locals)(F:BOk X.prog X.w X.K X.mg X.base k f fd ps pre)(hr:Room k X.A)(hm:X.mg x=some (.ref f))(hk:W.keepIn X.K (.ref f)=true)(hb:zcl X.K fd ps [])
  (ha:QA X (e::es) t) (hnx:∀ v s,¬ X.xe v s) {R:Addr} {rx:Str} {rp epos hpos tpos:Pos} {i:Nat} {b0:Stmt} {suite:List Stmt} {u:Addr->Obj->TS3} (hR:X.mg rx=some (.ref R)) (hN:X.N.Nodup)
  (hs:∀ ea oe,QSs (X.held ea oe) (b0::suite) (u ea oe)) (hi:X.N[i]?=some n:=by rfl) (hl:X.env.kindOf n=some .local:=by rfl) (hg:Gl X x:=by rfl) (hgR:Gl X rx:=by rfl)
  (hdb:(x==("__debug__":Str))=false:=by decide) (hdr:(rx==("__debug__":Str))=false:=by decide) (he:starEach (e::es) X.env=(false,eval e X.env)::starEach es X.env:=by rfl) (hpl:(backTo pos (starEach es X.env)).any (·.1)=false:=by rfl)
  (hsw:swapsWith (.Call (.Name x p) (e::es) [] pos) none epos.line X.env=pure false:=by rfl) :
  QS X (.Try [.Expr (.Call (.Name x p) (e::es) [] pos) epos] [.ExceptHandler (some (.Name rx rp)) (some n) (b0::suite) hpos] [] [] tpos) (zjh X.K R i pre t u) :=
 (ps_catch hst hfm F hr hg hm hk hb ha hnx hgR hR hN hi hl hs hdb hdr he hpl hsw).imp λD σ H h=>lCatch (K:=X.kw) h
def wIsE(K:W.Frag)(ea:Addr)(oe:Obj)(i:Nat)(cv:Value):TE3:=λτ G Q=>τ[i]?=some (some (.ref ea))/\∃ C b,oe.cls=.ref C/\XCls K C/\W.kitOne K (.ref C) cv=some b/\Q (.bl b) G
def rIsE(K:W.Frag)(ea:Addr)(oe:Obj)(vv:V)(cv:Value):List V->Hp->VK->Prop:=λxs H Q=>xs=[.ref ea,vv]/\∃ C b,oe.cls=.ref C/\XCls K C/\W.kitOne K (.ref C) cv=some b/\Q (.bl b) H
theorem zjS{ea:Addr}{oe:Obj}{vv:V}{cv:Value}(kt:XKit X.K)(hv:∀ u,zaK vv u->u=cv):zcV (X.held ea oe) (.builtin "isinstance") (rIsE X.K ea oe vv cv):=by
 intro pins s σ H xs us Q I r h
 obtain⟨rfl,C,b,ec,c,ek,q⟩:=h
 obtain⟨u,w',rfl,r1,r2⟩:=vals2 r
 cases r1
 cases hv _ r2
 exact W.kia_one (kit_exc c kt) I.kIn ⟨oe,(I.pin (ea,oe) (.head _)).1,ec⟩ ek (λz=>nomatch z) λtk=>⟨.bl b,H,I.tok tk,rfl,q⟩
theorem lIsE{K:KW}{ea:Addr}{oe:Obj}{i:Nat}{vv:V}{cv:Value}{σ:L2.St}{H:Hp}{Q:VK}(h:lE K (wIsE K.k ea oe i cv) σ H Q):tCB (rIsE K.k ea oe vv cv) (tCons (tVar i) (tCons (tC vv) tNil)) σ H Q:=by
 obtain⟨τ,G,Q3,s,r,⟨h1,C,b,ec,c,ek,q⟩,im⟩:=h
 obtain⟨v,e1,d⟩:=s.get h1
 cases d
 exact⟨_,e1,rfl,C,b,ec,c,ek,im _ G _ H q (Kp.refl _) (.bl b) r⟩
theorem qisE{ea:Addr}{oe:Obj}(i:Nat){d:Str}{D:Addr}(kt:XKit X.K)(hm:X.mg "isinstance"=none) (hd:X.mg d=some (.ref D)) (hN:X.N[i]?=some n:=by rfl) (hv:Vis X.env.scope n:=by first | exact Or.inl rfl | exact Or.inr (Or.inl rfl) | exact Or.inr (Or.inr rfl))
  (hg:Gl X "isinstance":=by rfl) (hgd:Gl X d:=by rfl) (hn:(n==("__debug__":Str))=false:=by decide) (hcn:(n==("__classdict__":Str))=false:=by decide) (hdd:(d==("__debug__":Str))=false:=by decide)
  (he:starEach [.Name n np,.Name d dp] X.env=(false,eval (.Name n np) X.env)::starEach [.Name d dp] X.env:=by rfl) (he2:starEach [.Name d dp] X.env=(false,eval (.Name d dp) X.env)::starEach [] X.env:=by rfl) (hpl:(backTo pos (starEach [.Name d dp] X.env)).any (·.1)=false:=by rfl) :
  QE (X.held ea oe) (.Call (.Name "isinstance" p) [.Name n np,.Name d dp] [] pos) (wIsE X.K ea oe i (.ref D)) :=
 (zg4 (X:=X.held ea oe) (zjS (vv:=.ref D) kt λu r=>by cases r; rfl) hg hm boot_isinstance (zeL (pe_var (X:=X.held ea oe) hN hv hn hcn) (zeL (pe_glob (X:=X.held ea oe) (v:=.ref D) hgd hd rfl hdd) zjy he2) he) (by decide) (by decide) he hpl).imp λσ H Q h=>lIsE (K:=(X.held ea oe).kw) h
theorem qisET{ea:Addr}{oe:Obj}(i:Nat){d:Str}{T:String}(kt:XKit X.K)(hm:X.mg "isinstance"=none) (hd:X.mg d=none) (hb:bootBuiltins d=some (.type T)) (hN:X.N[i]?=some n:=by rfl) (hv:Vis X.env.scope n:=by first | exact Or.inl rfl | exact Or.inr (Or.inl rfl) | exact Or.inr (Or.inr rfl))
  (hg:Gl X "isinstance":=by rfl) (hgd:Gl X d:=by rfl) (hn:(n==("__debug__":Str))=false:=by decide) (hcn:(n==("__classdict__":Str))=false:=by decide) (hdn:d≠"__name__":=by decide) (hdd:(d==("__debug__":Str))=false:=by decide)
  (he:starEach [.Name n np,.Name d dp] X.env=(false,eval (.Name n np) X.env)::starEach [.Name d dp] X.env:=by rfl) (he2:starEach [.Name d dp] X.env=(false,eval (.Name d dp) X.env)::starEach [] X.env:=by rfl) (hpl:(backTo pos (starEach [.Name d dp] X.env)).any (·.1)=false:=by rfl) :
  QE (X.held ea oe) (.Call (.Name "isinstance" p) [.Name n np,.Name d dp] [] pos) (wIsE X.K ea oe i (.type T)) :=
 (zg4 (X:=X.held ea oe) (zjS (vv:=.ty T) kt λu r=>by cases r; rfl) hg hm boot_isinstance (zeL (pe_var (X:=X.held ea oe) hN hv hn hcn) (zeL (pe_bltn (X:=X.held ea oe) (v:=.ty T) hgd hd hb rfl hdn hdd) zjy he2) he) (by decide) (by decide) he hpl).imp λσ H Q h=>lIsE (K:=(X.held ea oe).kw) h
end
end L3
namespace L2
open PySem PySem.Spec PyProof.Rows
section
variable {prog:Program}{w:World}{A:Around}{R:Result->Shared->Prop}{I:Addr}{fp wr:List Addr}{n:Nat}{P:Nat->Value->Prop}{St:Nat->Heap->Prop}
theorem mx_loopK{kw:List (Str×Value)}{bt:Nat->Nat->Bool}{h₀:Heap}{S:Addr}(W:Walks prog w A.in1 I fp wr n P St)(cmp:CmpIn prog w A.in1 .Gt h₀ P bt)(nS:S∉fp)(w0:∀ b∈wr,h₀.get? b=none)(s0:h₀.get? S=none) :
  ∀ (k j:Nat) (s:Shared) (best:Value) (c:Nat),n - (j+1)=k->j+1<=n->St (j+1) s.heap->zcv h₀ s.heap->P (argBest bt j) best->s.heap.get? S=some (two best c) ->
   (∀ v g tk,P (argBest bt (n - 1)) v->zcv h₀ g->R (.ok (.ret v)) { s with heap:=g,toks:=tk })->codeAny (model prog w) A (.builtin "max.loop" ⟨[.ref I,.none,.ref S],kw⟩) R s:=by
 have nw:S∉wr:=λh=>nS (W.sub _ h)
 have nm:(toString "max"++toString ".loop":String)="max.loop":=by decide
 have stay:∀ {h g:Heap},zcv h₀ h->(∀ b o,b∉wr->h.get? b=some o->g.get? b=some o)->zcv h₀ g:=λ{h g} kp kk b o e=>kk b o (λz=>by rw[w0 b z]at e; cases e) (kp b o e)
 have stay2:∀ {h:Heap} {f:Obj->Obj},zcv h₀ h->zcv h₀ (h.update S f):=λ{h f} kp b o e=>(Heap.get?_update_other _ _ (λz:S=b=>by rw[<- z,s0]at e; cases e)).trans (kp b o e)
 intro k
 induction k with
 | zero =>
  intro j s best c hk hj hst kp pb hS hR
  have e:j+1=n:=by lia
  refine codeAny_builtin F.entry_max_loop ?_
  rw[Around.under_plainId F.plain_max_loop _]
  change wpAny _ A.in1 (seqItems? (.ref S) >>= λ_=>_) _ _ s
  refine wB (wpAny_seqItems hS rfl ?_)
  change wpAny _ A.in1 (tryCatch (pyNext (.ref I)) _ >>= λ_=>_) _ _ s
  refine wB (wpAny_tryCatch (W.done s _ _ (e ▸ hst) λg tk kk=>?_))
  change wpAny _ A.in1 (updateSeq S (λ_=>#[]) >>= λ_=>_) _ _ _
  exact wpAny_bind (wpAny_updateSeq (kk S _ nw hS) rfl (wpAny_bind (wpAny_letGo (wpAny_pure (hR best _ tk (by rw[<- e]; exact pb) (stay2 (stay kp kk)))))))
 | succ k ih =>
  intro j s best c hk hj hst kp pb hS hR
  have lt:j+1 < n:=by lia
  refine codeAny_builtin F.entry_max_loop ?_
  rw[Around.under_plainId F.plain_max_loop _]
  change wpAny _ A.in1 (seqItems? (.ref S) >>= λ_=>_) _ _ s
  refine wB (wpAny_seqItems hS rfl ?_)
  change wpAny _ A.in1 (tryCatch (pyNext (.ref I)) _ >>= λ_=>_) _ _ s
  refine wB (wpAny_tryCatch (W.item (j+1) s _ _ lt hst λv g tk pv st' kk=>?_))
  have hS':=kk S _ nw hS
  change wpAny _ A.in1 (tryCatch (holding [v,v] (richCompare .Gt v best >>= λ_=>_)) _ >>= λ_=>_) _ _ _
  refine wB (wpAny_tryCatch (wpAny_holding (wB (cmp (j+1) (argBest bt j) v best _ _ _ (stay kp kk) pv pb (wB (wpAny_holding (wpAny_truthy_bool ?_)))))))
  refine wB (wpAny_letGo (wQ ?_))
  cases hb:bt (j+1) (argBest bt j)with
  | true =>
   rw[if_pos rfl]
   refine wB (wpAny_updateSeq hS' rfl (wB (wpAny_letGo ?_)))
   rw[nm]
   exact wpAny_pure ⟨plainId_quiet F.plain_max_loop _,ih (j+1) _ v _ (by lia) lt (W.frame _ _ _ st' λb hf o e=>(Heap.get?_update_other _ _ (λz:S=b=>nS (by rw[z]; exact hf))).trans e) (stay2 (stay kp kk))
    (by simp only[argBest,hb,if_true]; exact pv) (Heap.get?_update_self _ hS' rfl) λv' g' tk' p' k'=>hR v' g' tk' p' k'⟩
  | false =>
   rw[if_neg Bool.false_ne_true]
   refine wB (wpAny_letGo ?_)
   rw[nm]
   exact wpAny_pure ⟨plainId_quiet F.plain_max_loop _,ih (j+1) _ best c (by lia) lt st' (stay kp kk) (by simp only[argBest,hb,Bool.false_eq_true,if_false]; exact pb) hS' λv' g' tk' p' k'=>hR v' g' tk' p' k'⟩
end
section
variable {prog:Program}{w:World}{A:Around}{E:Value->Shared->Prop}{s:Shared}
theorem zin(a d:Value):argsOk "max" ⟨[a],[(("default":Str),d)]⟩:=by unfold argsOk; kernel_rfl
theorem zgH{id:String}{b:Builtin}{args:List Value}{kw:List (Str×Value)}{Q:Value->Shared->Prop}(hk:builtinKind id=none)(hp:plainId id=true)
  (hb:entryFor table id=some b) (ha:argsOk id ⟨args,kw⟩)
  (hc:wpAny (model prog w) A.in1 (b ⟨args,kw⟩) (λfin s'=>match fin with
   | .done f=>(match (Except.ok f:Result)with | .ok (.ret v)=>Q v s' | .ok _=>False | .error e=>E e s')
   | .again c'=>c'.quiet=true/\codeAny (model prog w) A c' (λr s'=>match r with | .ok (.ret v)=>Q v s' | .ok _=>False | .error e=>E e s') s') E s) :
  wpAny (model prog w) A (call (.builtin id) args kw) Q E s:=by
 refine wpAny_call (codeAny_call_builtin hp hb ?_)
 simp only[checkBuiltinCall,hk]
 cases hsig:Manifest.signature? id with
 | none=>exact wQ hc
 | some sig =>
  simp only[argsOk,hsig]at ha
  have h2:Bind.checkArgs id sig ⟨args,kw⟩=pure ():=ha
  show wpAny _ A.in1 (Bind.checkArgs id sig ⟨args,kw⟩) _ _ s
  rw[h2]; exact wpAny_pure hc
theorem max_ofD{d:Value}{l:Addr}{items:Array Value}{bt:Nat->Nat->Bool}{Q:Value->Shared->Prop}(hh:A.handled=none)(hl:s.heap.IsList l items)(n0:0 < items.size)(cmp:CmpIn prog w A.in1 .Gt s.heap (λi v=>items[i]?=some v) bt)
  (q:∀ v g tk,items[argBest bt (items.size - 1)]?=some v->zcv s.heap g->Q v { s with heap:=g,toks:=tk }):wpAny (model prog w) A (call (.builtin "max") [.ref l] [(("default":Str),d)]) Q E s:=by
 have nm:(toString "max"++toString ".loop":String)="max.loop":=by decide
 have ll:l < s.heap.objs.size:=let ⟨_,e,_⟩:=hl; hLz e
 have W:=Walks.list (prog:=prog) (w:=w) (A:=A.in1) hh s.heap.objs.size l (nNl ll) items
 refine zgH F.kind_max F.plain_max F.entry_max (zin _ _) ?_
 change wpAny _ A.in1 (Builtin.Builtins.bindParams "max" ["key","default"] 0 ⟨[],[(("default":Str),d)]⟩ >>= λ_=>_) _ _ s
 refine wB (wpAny_of_eq (a:=[none,some d]) rfl (wB (wQ (wB (wpAny_pyIter_list hl (wB (wpAny_newObj_type ?_)))))))
 rw[nm]
 have k1:zcv s.heap (s.heap.push { cls:=.type "list_iterator",data:=.fields #[.ref l,.int 0 0] }):=λb o e=>Heap.get?_push_of_some _ e
 have z1:(s.heap.push { cls:=.type "list_iterator",data:=.fields #[.ref l,.int 0 0] }).objs.size=s.heap.objs.size+1:=Heap.size_push ..
 have nS:(s.heap.push { cls:=.type "list_iterator",data:=.fields #[.ref l,.int 0 0] }).objs.size∉[s.heap.objs.size,l]:=by
  rw[z1]; intro h
  rcases List.mem_cons.mp h with h | h
  ·exact Nat.succ_ne_self _ h
  ·exact Nat.ne_of_gt (Nat.lt_succ_of_lt ll) (List.mem_singleton.mp h)
 have w0:∀ b∈[s.heap.objs.size],s.heap.get? b=none:=λb hb=>by
  obtain rfl:=List.mem_singleton.mp hb
  cases e:s.heap.get? s.heap.objs.size with
  | none=>rfl
  | some o=>exact absurd (hLz e) (Nat.lt_irrefl _)
 have s0:s.heap.get? (s.heap.push { cls:=.type "list_iterator",data:=.fields #[.ref l,.int 0 0] }).objs.size=none:=by
  cases e:s.heap.get? (s.heap.push { cls:=.type "list_iterator",data:=.fields #[.ref l,.int 0 0] }).objs.size with
  | none=>rfl
  | some o=>have:=Heap.lt_size e; rw[z1]at this; exact absurd this (Nat.not_succ_lt_self)
 have nw:(s.heap.push { cls:=.type "list_iterator",data:=.fields #[.ref l,.int 0 0] }).objs.size∉[s.heap.objs.size]:=λh=>nS (W.sub _ h)
 refine wQ ⟨plainId_quiet F.plain_max_loop _,codeAny_builtin F.entry_max_loop ?_⟩
 rw[Around.under_plainId F.plain_max_loop _]
 change wpAny _ A.in1 (seqItems? (.ref _) >>= λ_=>_) _ _ _
 refine wB (wpAny_seqItems (hPz _ rfl) rfl ?_)
 change wpAny _ A.in1 (tryCatch (pyNext (.ref _)) _ >>= λ_=>_) _ _ _
 have st0:(λi (h:Heap)=>h.IsListIter s.heap.objs.size l i/\h.IsList l items) 0 ((s.heap.push { cls:=.type "list_iterator",data:=.fields #[.ref l,.int 0 0] }).push { cls:=.type "list",data:=.seq ([]:List Value).toArray }) :=
  ⟨⟨_,hPs _ (hPz _ rfl),rfl,rfl⟩,let ⟨o,e,r⟩:=hl; ⟨o,hPs _ (k1 l o e),r⟩⟩
 refine wB (wpAny_tryCatch (W.item 0 _ _ _ n0 st0 λv g tk pv st' kk=>?_))
 have hS':=kk _ _ nw (hPz _ rfl)
 change wpAny _ A.in1 (updateSeq _ (λ_=>#[v,v]) >>= λ_=>_) _ _ _
 refine wB (wpAny_updateSeq hS' rfl ?_)
 rw[nm]
 have kg:zcv s.heap g:=λb o e=>kk b o (λz=>by rw[w0 b z]at e; cases e) (Heap.get?_push_of_some _ (k1 b o e))
 refine wpAny_pure ⟨plainId_quiet F.plain_max_loop _,mx_loopK W cmp nS w0 s0 _ 0 _ v _ rfl n0 (W.frame _ _ _ st' λb hf o e=>(Heap.get?_update_other _ _ (λz=>nS (by rw[z]; exact hf))).trans e) (λb o e=>(Heap.get?_update_other _ _ (λz=>by rw[z,e]at s0; cases s0)).trans (kg b o e)) pv (Heap.get?_update_self _ hS' rfl) λv' g' tk' p' k'=>q v' g' tk' p' k'⟩
theorem max_nilD{d:Value}{l:Addr}{Q:Value->Shared->Prop}(hh:A.handled=none)(hl:s.heap.IsList l #[])(q:∀ g tk,zcv s.heap g->Q d { s with heap:=g,toks:=tk }):wpAny (model prog w) A (call (.builtin "max") [.ref l] [(("default":Str),d)]) Q E s:=by
 have nm:(toString "max"++toString ".loop":String)="max.loop":=by decide
 have ll:l < s.heap.objs.size:=let ⟨_,e,_⟩:=hl; hLz e
 have W:=Walks.list (prog:=prog) (w:=w) (A:=A.in1) hh s.heap.objs.size l (nNl ll) #[]
 refine zgH F.kind_max F.plain_max F.entry_max (zin _ _) ?_
 change wpAny _ A.in1 (Builtin.Builtins.bindParams "max" ["key","default"] 0 ⟨[],[(("default":Str),d)]⟩ >>= λ_=>_) _ _ s
 refine wB (wpAny_of_eq (a:=[none,some d]) rfl (wB (wQ (wB (wpAny_pyIter_list hl (wB (wpAny_newObj_type ?_)))))))
 rw[nm]
 have k1:zcv s.heap (s.heap.push { cls:=.type "list_iterator",data:=.fields #[.ref l,.int 0 0] }):=λb o e=>Heap.get?_push_of_some _ e
 have z1:(s.heap.push { cls:=.type "list_iterator",data:=.fields #[.ref l,.int 0 0] }).objs.size=s.heap.objs.size+1:=Heap.size_push ..
 have nS:(s.heap.push { cls:=.type "list_iterator",data:=.fields #[.ref l,.int 0 0] }).objs.size∉[s.heap.objs.size,l]:=by
  rw[z1]; intro h
  rcases List.mem_cons.mp h with h | h
  ·exact Nat.succ_ne_self _ h
  ·exact Nat.ne_of_gt (Nat.lt_succ_of_lt ll) (List.mem_singleton.mp h)
 have w0:∀ b∈[s.heap.objs.size],s.heap.get? b=none:=λb hb=>by
  obtain rfl:=List.mem_singleton.mp hb
  cases e:s.heap.get? s.heap.objs.size with
  | none=>rfl
  | some o=>exact absurd (hLz e) (Nat.lt_irrefl _)
 have s0:s.heap.get? (s.heap.push { cls:=.type "list_iterator",data:=.fields #[.ref l,.int 0 0] }).objs.size=none:=by
  cases e:s.heap.get? (s.heap.push { cls:=.type "list_iterator",data:=.fields #[.ref l,.int 0 0] }).objs.size with
  | none=>rfl
  | some o=>have:=Heap.lt_size e; rw[z1]at this; exact absurd this (Nat.not_succ_lt_self)
 have nw:(s.heap.push { cls:=.type "list_iterator",data:=.fields #[.ref l,.int 0 0] }).objs.size∉[s.heap.objs.size]:=λh=>nS (W.sub _ h)
 refine wQ ⟨plainId_quiet F.plain_max_loop _,codeAny_builtin F.entry_max_loop ?_⟩
 rw[Around.under_plainId F.plain_max_loop _]
 change wpAny _ A.in1 (seqItems? (.ref _) >>= λ_=>_) _ _ _
 refine wB (wpAny_seqItems (hPz _ rfl) rfl ?_)
 change wpAny _ A.in1 (tryCatch (pyNext (.ref _)) _ >>= λ_=>_) _ _ _
 have st0:(λi (h:Heap)=>h.IsListIter s.heap.objs.size l i/\h.IsList l #[]) 0 ((s.heap.push { cls:=.type "list_iterator",data:=.fields #[.ref l,.int 0 0] }).push { cls:=.type "list",data:=.seq ([]:List Value).toArray }) :=
  ⟨⟨_,hPs _ (hPz _ rfl),rfl,rfl⟩,let ⟨o,e,r⟩:=hl; ⟨o,hPs _ (k1 l o e),r⟩⟩
 refine wB (wpAny_tryCatch (W.done _ _ _ st0 λg tk kk=>?_))
 have kg:zcv s.heap g:=λb o e=>kk b o (λz=>by rw[w0 b z]at e; cases e) (Heap.get?_push_of_some _ (k1 b o e))
 change wpAny _ A.in1 (rule _ >>= λ_=>_) _ _ _
 exact wB (wpAny_rule (wQ (q g tk kg)))
end
section
variable {X:Cx}
def rMaxD(K:W.Frag)(vs:List V)(x:V)(H:Hp)(Q:VK):Prop:=∃ p ns,vs=[.ref p]/\SqL K H p (ns.map V.int)/\Q (match ns with | []=>x | y::r=>.int (zdx (λa b=>decide (a < b)) y r)) H
theorem pe_maxD{e v:Expr}{t:TA}{tv:TE}{p pos kp:Pos}(hm:X.mg "max"=none) (ha:PA X [e] t) (hv:PE X v tv) (hg:Gl X "max") (hc:X.calm=true)
  (he:backTo pos (starEach [e] X.env)=(false,eval e X.env)::backTo pos (starEach [] X.env):=by rfl) :
  PE X (.Call (.Name "max" p) [e] [⟨some "default",v,kp⟩] pos) (λσ H Q=>t σ H λvs H1=>tv σ H1 λx H2=>rMaxD X.K vs x H2 Q):=by
 intro pins s σ H Q I h
 refine wpAny_Call_Name_kw (ze2 I hg hm boot_max ?_)
 refine PyProof.Rows.callWith_kw (thn (ha pos pins s σ H _ I h) λus s1 ⟨vs,H1,I1,r1,q1⟩=>?_) he (by rw[he]; rfl) rfl rfl
 refine PyProof.Rows.kws_cons (thn (hv pins s1 σ H1 _ I1 q1) λu s2 ⟨x,H2,I2,r2,q2⟩=>PyProof.Rows.kws_nil ?_)
 obtain⟨l,ns,rfl,hq,q⟩:=q2
 obtain⟨u1,rfl,ru⟩:∃ u,us=[u]/\zaK (.ref l) u:=by
  cases r1 with
  | cons a b=>cases b; exact⟨_,rfl,a⟩
 cases ru
 obtain⟨its,rv,pl,hz⟩:=I2.list hq
 show wpAny _ _ (call (.builtin "max") [.ref l] [(("default":Str),u)]) _ _ s2
 cases ns with
 | nil =>
  cases rv
  exact max_nilD (I2.ok.hd hc) pl.isList λg tk kp=>⟨x,H2,I2.kept kp,r2,q⟩
 | cons x0 qs =>
  have hlen:its.length=(x0::qs).length:=by rw[<- rv.length]; simp
  have pr:∀ (i:Nat) (u:Value),its.toArray[i]?=some u->∃ t,u=Value.int ((x0::qs).getD i 0) t:=by
   intro i u hi
   rw[List.getElem?_toArray]at hi
   obtain⟨hi1,hi2⟩:=List.getElem?_eq_some_iff.mp hi
   have hi3:i < (x0::qs).length:=by rw[<- hlen]; exact hi1
   obtain⟨u',hu',ru'⟩:=rv.get (x:=V.int (x0::qs)[i]) (i:=i) (by rw[List.getElem?_map,lGe hi3]; rfl)
   rw[hi]at hu'; cases hu'
   obtain⟨t,rfl⟩:=ru'
   exact⟨t,by rw[List.getD_eq_getElem?_getD,List.getElem?_eq_getElem hi3]; rfl⟩
  refine max_ofD (bt:=λi j=>decide ((x0::qs).getD j 0 < (x0::qs).getD i 0)) (I2.ok.hd hc) pl.isList (by rw[List.size_toArray,hlen]; simp) ?_ ?_
  ·intro i j u v s' Q' E' kp hi hj h'
   exact CmpOf.ints_gt (P:=λi v=>its.toArray[i]?=some v) (λi=>(x0::qs).getD i 0) pr i j u v s' Q' E' hi hj h'
  ·intro v g tk hv kp
   have hb:=zcJ (lt:=λa b:Int=>decide (a < b)) (d:=0) (x:=x0) (r:=qs) qs.length (nLr _)
   have esz:its.toArray.size - 1=qs.length:=by rw[List.size_toArray,hlen]; simp
   rw[esz]at hv
   rw[List.take_length]at hb
   obtain⟨t,rfl⟩:=pr _ v hv
   refine⟨V.int _,H2,I2.kept kp,⟨t,rfl⟩,?_⟩
   rw[List.getD_eq_getElem?_getD,hb.2]
   exact q
end
end L2
namespace L3
open PySem PySem.Spec PyProof.Rows L2
section
variable {X:Cx}{e v:Expr}{pos p kp:Pos}{t:TA3}{tv:TE3}
noncomputable def maxDT(ns:List Int)(x:T):T:=match ns with
 | []=>x
 | y::r=>.int (zdx (λa b=>decide (a < b)) y r)
def wMaxD(t:TA3)(tv:TE3):TE3:=λτ G Q=>t τ G λts G1=>match ts with
 | [.ref q]=>(match G1 q with
  | some (.lst us)=>tv τ G1 λx G2=>G2 q=some (.lst us)/\∃ ns:List Int,us=ns.map T.int/\Q (maxDT ns x) G2
  | _=>False)
 | _=>False
theorem qmaxD(hm:X.mg "max"=none) (ha:QA X [e] t) (hv:QE X v tv) (hg:Gl X "max":=by rfl) (hc:X.calm=true:=by rfl) (he:backTo pos (starEach [e] X.env)=(false,eval e X.env)::backTo pos (starEach [] X.env):=by rfl) :
  QE X (.Call (.Name "max" p) [e] [⟨some "default",v,kp⟩] pos) (wMaxD t tv):=(pe_maxD hm ha hv hg hc he).imp λσ H Q hu=>by
 obtain⟨τ,G,Q3,s,r,h,im⟩:=hu
 refine⟨τ,G,_,s,r,h,λts G1 vs H1 h1 k1 d1 r1=>?_⟩
 split at h1
 ·rename_i q
  cases d1 with
  | cons d2 d3 =>
   cases d3
   cases d2
   split at h1
   ·rename_i us eg
    refine⟨τ,G1,_,s.mono k1,r1,h1,λx G2 v H2 h2 k2 d2 r2=>?_⟩
    obtain⟨eg2,ns,eu,h2⟩:=h2
    obtain⟨xs,e1,ds⟩:=r2 _ _ eg2
    subst eu
    have:=zdP ds
    subst this
    refine⟨q,ns,rfl,SqL.of e1,?_⟩
    cases ns with
    | nil=>exact im _ G2 _ H2 h2 (k1.trans k2) d2 r2
    | cons y r'=>exact im _ G2 _ H2 h2 (k1.trans k2) (.int _) r2
   ·exact h1.elim
 ·exact h1.elim
end
end L3
namespace L2
open PySem PySem.Spec PyProof.Rows
section
variable {prog:Program}{w:World}{A:Around}{E:Value->Shared->Prop}{s:Shared}
end
section
variable {X:Cx}
end
end L2
namespace L3
open PySem PySem.Spec PyProof.Rows L2
section
variable {X:Cx}{a:Expr}{pos p p2 pos2:Pos}{t:TA3}
end
end L3
namespace Rm
open PySem L2 L3
theorem zgO(G:Gp)(a:Addr)(o:GO)(b:Addr):updG G a o b=if b=a then some o else G b:=rfl
theorem zeb{G:Gp}{a d:Addr}{x y z:GO}(h:d≠a):updG (updG (updG G a x) d y) a z=updG (updG G d y) a z:=by
 funext b; simp only[zgO]; by_cases e:b=a<;>simp[e]
theorem zgq{G:Gp}{a q d:Addr}{x y z u:GO}(h1:q≠a)(h2:d≠a):updG (updG (updG (updG G a x) q y) d z) a u=updG (updG (updG G q y) d z) a u:=by
 funext b; simp only[zgO]; by_cases e:b=a<;>simp[e]
theorem enum_drop{W:List Int}{k:Nat}(h:k < W.length):(zd7 (W.map T.int)).drop k=.tup [.int k,.int (W.getD k 0)]::(zd7 (W.map T.int)).drop (k+1):=by
 have hl:k < (zd7 (W.map T.int)).length:=by simp[zd7,h]
 rw[List.drop_eq_getElem_cons hl]
 congr 1
 simp[zd7,h]
theorem rng_drop{m k:Nat}(h:k < m):(zcH 0 m).drop k=.int k::(zcH 0 m).drop (k+1):=by
 have hl:k < (zcH 0 m).length:=by simp[zcH,h]
 rw[List.drop_eq_getElem_cons hl]
 congr 1
 simp[zcH]
noncomputable def oI:Option Int->T
 | none=>.non
 | some i=>.int i
noncomputable def oP:Option (Int×Int)->T
 | none=>.non
 | some q=>.tup [.int q.1,.int q.2]
noncomputable def zbB:M.Let->T
 | .prepare b=>.tup [.str "prepare",.int b]
 | .promise b v l=>.tup [.str "promise",.int b,.int v,oP l]
 | .ask b w=>.tup [.str "ask",.int b,.int w]
 | .vote b v w=>.tup [.str "vote",.int b,.int v,.int w]
noncomputable def oK:Option (Int×Int)->A1
 | none=>.at .non
 | some q=>.tup [.int q.1,.int q.2]
noncomputable def zh4:M.Let->LK
 | .prepare b=>[.at (.str "prepare"),.at (.int b)]
 | .promise b v l=>[.at (.str "promise"),.at (.int b),.at (.int v),oK l]
 | .ask b w=>[.at (.str "ask"),.at (.int b),.at (.int w)]
 | .vote b v w=>[.at (.str "vote"),.at (.int b),.at (.int v),.at (.int w)]
theorem lkT_letK(x:M.Let):lkT (zh4 x)=zbB x:=by
 cases x with
 | promise b v l=>cases l<;>rfl
 | _=>rfl
theorem zeo(x:M.Let):lkOf (zbB x)=some (zh4 x):=by rw[<- lkT_letK]; exact zjD _
theorem zgy(x:M.Let):zhm (zbB x)=none:=by cases x<;>rfl
theorem ok1:PyData.strOk ("prepare":Str)=true:=by decide +kernel
theorem ok2:PyData.strOk ("promise":Str)=true:=by decide +kernel
theorem zhz:PyData.strOk ("ask":Str)=true:=by decide +kernel
theorem ok4:PyData.strOk ("vote":Str)=true:=by decide +kernel
theorem zek(x:M.Let):zhy (zh4 x)=true:=by
 cases x with
 | prepare b=>simp[zh4,zhy,A1.ok,A0.ok,ok1]
 | promise b v l=>cases l<;>simp[zh4,zhy,A1.ok,A0.ok,ok2,oK]
 | ask b w=>simp[zh4,zhy,A1.ok,A0.ok,zhz]
 | vote b v w=>simp[zh4,zhy,A1.ok,A0.ok,ok4]
theorem s12:("prepare":Str)≠"promise":=by decide
theorem s13:("prepare":Str)≠"ask":=by decide
theorem s14:("prepare":Str)≠"vote":=by decide
theorem s23:("promise":Str)≠"ask":=by decide
theorem s24:("promise":Str)≠"vote":=by decide
theorem s34:("ask":Str)≠"vote":=by decide
theorem zjF{x y:M.Let}(h:zh4 x=zh4 y):x=y:=by
 have oi:∀ {l r:Option (Int×Int)},oK l=oK r->l=r:=by
  intro l r h
  cases l<;>cases r<;>simp[oK]at h
  ·rfl
  ·rename_i a b; cases a; cases b; simp_all
 cases x<;>cases y<;>simp[zh4,s12,s13,s14,s23,s24,s34,s12.symm,s13.symm,s14.symm,s23.symm,s24.symm,s34.symm]at h<;>simp_all
 ·exact⟨by lia,oi h.2.2⟩
 ·lia
noncomputable def wrO(L:List M.Let):GO:=match L with
 | []=>.dK []
 | x::r=>.dT ((x::r).map λy=>(zh4 y,.bl true))
theorem val_wr(x:M.Let):∀ (L:List M.Let),(zdC (L.map λy=>(zh4 y,T.bl true)) (zh4 x)).isSome=decide (x∈L)
 | []=>by simp[zdC]
 | y::r=>by
  have ih:=val_wr x r
  unfold zdC at ih ⊢
  rw[List.map_cons,List.find?_cons]
  by_cases e:y=x
  ·subst e; simp
  ·have:¬ zh4 y=zh4 x:=λz=>e (zjF z)
   simp only[this,decide_false]
   rw[ih]
   simp[Ne.symm e]
theorem wr_get{G:Gp}{pw:Addr}{L:List M.Let}(x:M.Let)(h:G pw=some (wrO L)):∃ r,zc7 (.ref pw) (zbB x) G=some r/\r.isSome=decide (x∈L):=by
 cases L with
 | nil=>exact⟨none,by simp[zc7,h,wrO,zi8,zgy,zeo,zek],by simp⟩
 | cons y r=>exact⟨_,by simp only[zc7,h,wrO,zi7,zeo,zek,if_true],val_wr x (y::r)⟩
theorem wr_in{G:Gp}{pw:Addr}{L:List M.Let}{x:T}(h:G pw=some (wrO L)):zh7 x (.ref pw) G=none:=by
 have:zaF (.ref pw) G=none:=by
  cases L with
  | nil=>simp[zaF,h,wrO]
  | cons y r=>simp[zaF,h,wrO]
 simp[zh7,this]
theorem wr_set{G:Gp}{pw:Addr}{L:List M.Let}{x:M.Let}{Q:Gp->Prop}(h:G pw=some (wrO L))(hx:x∉L)(hl:L.length<=1000000)(q:Q (updG G pw (wrO (L++[x])))):set3 (.ref pw) (zbB x) (.bl true) G Q:=by
 cases L with
 | nil =>
  simp only[set3,h,wrO,zgy,zeo]
  exact⟨zek x,q⟩
 | cons y r =>
  simp only[set3,h,wrO,zeo]
  refine⟨zek x,by simpa using hl,?_⟩
  rw[zhP]
  ·have:wrO ((y::r)++[x])=.dT (((y::r).map λy=>(zh4 y,T.bl true))++[(zh4 x,.bl true)]):=by simp[wrO]
   rw[this]at q
   exact q
  ·intro hm
   rw[List.map_map]at hm
   obtain⟨z,hz,e⟩:=List.mem_map.mp hm
   have:z=x:=zjF e
   subst this
   exact hx hz
noncomputable def fP(row wr:T):List (Str×T):=[("row",row),("written",wr)]
noncomputable def fA(nu st wi ma ba fr nt ak:T):List (Str×T):=[("number",nu),("step",st),("wish",wi),("many",ma),("ballot",ba),("fresh",fr),("noted",nt),("asked",ak)]
noncomputable def fV(nu bo la:T):List (Str×T):=[("number",nu),("bound",bo),("last",la)]
noncomputable def fR(ma pi as vs:T):List (Str×T):=[("many",ma),("pile",pi),("askers",as),("voters",vs)]
section
variable {nu st wi ma ba fr nt ak x row wr bo la pi as vs:T}
theorem zgD:(fP row wr).lookup ("row":Str)=some row:=rfl
theorem zgC:(fP row wr).lookup ("written":Str)=some wr:=rfl
theorem fA_number:(fA nu st wi ma ba fr nt ak).lookup ("number":Str)=some nu:=rfl
theorem fA_step:(fA nu st wi ma ba fr nt ak).lookup ("step":Str)=some st:=rfl
theorem fA_wish:(fA nu st wi ma ba fr nt ak).lookup ("wish":Str)=some wi:=rfl
theorem fA_many:(fA nu st wi ma ba fr nt ak).lookup ("many":Str)=some ma:=rfl
theorem zc4:(fA nu st wi ma ba fr nt ak).lookup ("ballot":Str)=some ba:=rfl
theorem fA_fresh:(fA nu st wi ma ba fr nt ak).lookup ("fresh":Str)=some fr:=rfl
theorem zfm:(fA nu st wi ma ba fr nt ak).lookup ("noted":Str)=some nt:=rfl
theorem zjM:(fA nu st wi ma ba fr nt ak).lookup ("asked":Str)=some ak:=rfl
theorem zes:(fV nu bo la).lookup ("number":Str)=some nu:=rfl
theorem zet:(fV nu bo la).lookup ("bound":Str)=some bo:=rfl
theorem zi1:(fV nu bo la).lookup ("last":Str)=some la:=rfl
theorem fR_many:(fR ma pi as vs).lookup ("many":Str)=some ma:=rfl
theorem zdN:(fR ma pi as vs).lookup ("pile":Str)=some pi:=rfl
theorem zdO:(fR ma pi as vs).lookup ("askers":Str)=some as:=rfl
theorem zfQ:(fR ma pi as vs).lookup ("voters":Str)=some vs:=rfl
end
noncomputable def cellI(ns:List Int)(k:Nat):Int:=ns.getD k 0
theorem eqvI(i j:Int):PyData.eqv (.int i) (.int j)=decide (i=j):=by rw[show PyData.eqv (.int i) (.int j)=(i==j)from rfl]; exact Bool.beq_eq_decide_eq i j
theorem at0{x:T}{l:List T}:atI (x::l) 0=some x:=zcT (j:=0) (by simp)
theorem at1{x y:T}{l:List T}:atI (x::y::l) 1=some y:=zcT (j:=1) (by simp)
theorem at2{x y z:T}{l:List T}:atI (x::y::z::l) 2=some z:=zcT (j:=2) (by simp)
theorem at3{x y z u:T}{l:List T}:atI (x::y::z::u::l) 3=some u:=zcT (j:=3) (by simp)
theorem zdo{g:TG3}{tc:TT3}{te:TE3}{S:Gp->Prop}{τ:St3}{G:Gp}{Q:List T->Gp->Prop}(p:T->Bool)(h:T->T)(hS:S G):∀ (ts acc:List T),
  (∀ x∈ts,∀ R:St3->Gp->Prop,(∀ τ2,(∀ R':Bool->Gp->Prop,R' (p x) G->tc τ2 G R')->(p x=true->∀ R':VK3,R' (h x) G->te τ2 G R')->R τ2 G)->g x τ G R)->Q (acc++(ts.filter p).map h) G->zfU g tc te S ts τ acc G Q
 | [],acc,_,q=>⟨hS,by simpa using q⟩
 | x::r,acc,hx,q=>by
  refine⟨hS,hx x List.mem_cons_self _ λτ2 h1 h2=>h1 _ ?_⟩
  by_cases c:p x=true
  ·rw[if_pos c]
   refine h2 c _ (zdo p h hS r (acc++[h x]) (λy hy=>hx y (lMc _ hy)) ?_)
   rw[List.filter_cons_of_pos c]at q
   simpa using q
  ·rw[if_neg c]
   refine zdo p h hS r acc (λy hy=>hx y (lMc _ hy)) ?_
   rw[List.filter_cons_of_neg c]at q
   exact q
theorem zew{te:TE3}{S:Gp->Prop}{τ:St3}{G:Gp}{Q:List T->Gp->Prop}(h:T->T)(hS:S G)(ts:List T)(hx:∀ x∈ts,∀ R:VK3,R (h x) G->te (τ.set 0 (some x)) G R)(q:Q (ts.map h) G):zfU (zaH 0) zai te S ts τ [] G Q :=
 zdo (λ_=>true) h hS ts [] (λx hm R k=>k _ (λR' r=>r) λ_ R' r=>hx x hm R' r) (by rw[List.filter_eq_self.mpr (λ_ _=>rfl)]; exact q)
section
variable {K:W.Frag}{G:Gp}{p C:Addr}{fs:List (Str×T)}{f m:Str}{y v:T}
theorem zam{Q:Gp->Prop}(h:G p=some (.ins C fs))(a:Att K C f)(l:Nat.blt fs.length 1000=true)(q:Q (updG G p (.ins C (zgx f y fs)))):zjx K (.ref p) y f G Q:=by
 have l':fs.length < 1000:=by simpa using l
 simp only[zjx,h]; exact⟨a,l',q⟩
theorem zag{Q:VK3}(h:G p=some (.ins C fs))(l:fs.lookup f=some v)(a:Att K C f)(q:Q v G):fldAt K (.ref p) G f Q:=by
 simp only[fldAt,h,l]; exact⟨a,q⟩
theorem ixA_lst{ts:List T}{i:Nat}{Q:VK3}(h:G p=some (.lst ts))(ht:ts[i]?=some v)(q:Q v G):ixA (.ref p) (.int i) G Q:=by
 have e:atI ts (i:Int)=some v:=zcT ht
 simp only[ixA,zc7,h,ix3,zaF,e]; exact q
theorem zax{ts:List T}{i:Nat}{Q:VK3}(ht:ts[i]?=some v)(q:Q v G):ixA (.tup ts) (.int i) G Q:=by
 have e:atI ts (i:Int)=some v:=zcT ht
 simp only[ixA,zc7,ix3,zaF,e]; exact q
theorem zg5{us:List T}{Q:Prop}(h:G p=some (.lst us))(q:Q):ze7 (.ref p) G Q:=by
 simp only[ze7,h]; exact q
theorem zjc{us:List T}{Q:VK3}(h:G p=some (.lst us))(l:us.length<=1000000)(q:Q .non (updG G p (.lst (us++[y])))):app3 (.ref p) [y] G Q:=by
 simp only[app3,h]; exact⟨l,q⟩
theorem zaf{Q:Prop}(h:G p=some (.ins C fs))(l:fs.lookup m=none)(q:Q):zg6 (.ref p) C m G Q:=by
 unfold zg6; dsimp only; rw[h]; exact⟨⟨rfl,l⟩,q⟩
end
inductive Slot where
 | r | p | pr | pw | la | lv | as (i:Nat) | nt (i:Nat) | ak (i:Nat) | vs (v:Nat)
 deriving DecidableEq
noncomputable abbrev Adr:=Slot->Addr
structure Cz where
 P:Addr
 A:Addr
 V:Addr
 R:Addr
 T:Addr:=0
 xA:Addr:=0
 xV:Addr:=0
 xL:Addr:=0
 xR:Addr:=0
theorem len0{α:Type}{us:List α}(h:us.length=0):us=[]:=List.length_eq_zero_iff.mp h
theorem lenS{α:Type}{us:List α}{n:Nat}(h:us.length=n+1):∃ a r,us=a::r/\r.length=n:=by
 cases us with
 | nil=>cases h
 | cons a r=>exact⟨a,r,rfl,Nat.succ.inj h⟩
theorem ziu{α:Type}{us:List α}(h:us.length=1):∃ a,us=[a]:=by
 obtain⟨a,r,rfl,g⟩:=lenS h
 cases len0 g
 exact⟨a,rfl⟩
theorem zf2{α:Type}{us:List α}(h:us.length=2):∃ a b,us=[a,b]:=by
 obtain⟨a,r,rfl,g⟩:=lenS h
 obtain⟨b,rfl⟩:=ziu g
 exact⟨a,b,rfl⟩
theorem zep{α:Type}{us:List α}(h:us.length=3):∃ a b c,us=[a,b,c]:=by
 obtain⟨a,r,rfl,g⟩:=lenS h
 obtain⟨b,c,rfl⟩:=zf2 g
 exact⟨a,b,c,rfl⟩
theorem len4{α:Type}{us:List α}(h:us.length=4):∃ a b c d,us=[a,b,c,d]:=by
 obtain⟨a,r,rfl,g⟩:=lenS h
 obtain⟨b,c,d,rfl⟩:=zep g
 exact⟨a,b,c,d,rfl⟩
theorem len5{α:Type}{us:List α}(h:us.length=5):∃ a b c d e,us=[a,b,c,d,e]:=by
 obtain⟨a,r,rfl,g⟩:=lenS h
 obtain⟨b,c,d,e,rfl⟩:=len4 g
 exact⟨a,b,c,d,e,rfl⟩
abbrev zbr(p a v r t xa xv xl xr:Addr):Cz:=⟨p,a,v,r,t,xa,xv,xl,xr⟩
structure At(K:W.Frag)(Z:Cz):Prop where
 row:Att K Z.P "row"
 written:Att K Z.P "written"
 number:Att K Z.A "number"
 step:Att K Z.A "step"
 wish:Att K Z.A "wish"
 many:Att K Z.A "many"
 ballot:Att K Z.A "ballot"
 fresh:Att K Z.A "fresh"
 noted:Att K Z.A "noted"
 asked:Att K Z.A "asked"
 vnumber:Att K Z.V "number"
 bound:Att K Z.V "bound"
 last:Att K Z.V "last"
 rmany:Att K Z.R "many"
 pile:Att K Z.R "pile"
 askers:Att K Z.R "askers"
 voters:Att K Z.R "voters"
def zfI(S:P.R):Slot->Prop
 | .as i=>i < S.wishes.length
 | .nt i=>i < S.wishes.length
 | .ak i=>i < S.wishes.length
 | .vs v=>v < S.many
 | _=>True
noncomputable def zd4(l:List (Nat×Option (Int×Int))):GO:=.dK (l.map λp=>(Sum.inl (p.1:Int),oP p.2))
noncomputable def akO(l:List (Int×List Nat)):GO:=.dK (l.map λp=>(Sum.inl p.1,T.tup (p.2.map λ(v:Nat)=>T.int v)))
noncomputable def obj(Z:Cz)(S:P.R)(A:Adr):Slot->GO
 | .r=>.ins Z.R (fR (.int S.many) (.ref (A .p)) (.ref (A .la)) (.ref (A .lv)))
 | .p=>.ins Z.P (fP (.ref (A .pr)) (.ref (A .pw)))
 | .pr=>.lst (S.letters.map zbB)
 | .pw=>wrO S.letters
 | .la=>.lst ((List.range S.wishes.length).map λi=>.ref (A (.as i)))
 | .lv=>.lst ((List.range S.many).map λi=>.ref (A (.vs i)))
 | .as i=>.ins Z.A (fA (.int i) (.int S.wishes.length) (.int (S.wishes.getD i 0)) (.int S.many) (oI (S.askers i).ballot) (.int (S.askers i).fresh) (.ref (A (.nt i))) (.ref (A (.ak i))))
 | .nt i=>zd4 (S.askers i).noted
 | .ak i=>akO (S.askers i).asked
 | .vs v=>.ins Z.V (fV (.int v) (oI (S.voters v).promised) (oP (S.voters v).voted))
structure RoomAt(Z:Cz)(G:Gp)(A:Adr)(S:P.R):Prop where
 at':∀ s,zfI S s->G (A s)=some (obj Z S A s)
 inj:∀ s t,zfI S s->zfI S t->A s=A t->s=t
def own(A:Adr)(S:P.R)(a:Addr):Prop:=∃ s,zfI S s/\A s=a
def Fr(G:Gp)(A:Adr)(S:P.R)(G':Gp)(A':Adr)(S':P.R):Prop:=∀ a o,¬ own A S a->G a=some o->G' a=some o/\¬ own A' S' a
section
variable {Z:Cz}{G G':Gp}{A A':Adr}{S S':P.R}
theorem RoomAt.ne(R:RoomAt Z G A S){s t:Slot}(hs:zfI S s)(ht:zfI S t)(h:s≠t):A s≠A t:=λe=>h (R.inj s t hs ht e)
theorem RoomAt.free(R:RoomAt Z G A S){a:Addr}(h:G a=none):¬ own A S a:=by
 rintro⟨s,hs,rfl⟩
 rw[R.at' s hs]at h; cases h
theorem RoomAt.nown(R:RoomAt Z G A S){a:Addr}(h:¬ own A S a){s:Slot}(hs:zfI S s):A s≠a:=λe=>h ⟨s,hs,e⟩
theorem RoomAt.beside(R:RoomAt Z G A S){a:Addr}{o:GO}(h:¬ own A S a):RoomAt Z (updG G a o) A S :=
 ⟨λs hs=>by rw[zab (R.nown h hs)]; exact R.at' s hs,R.inj⟩
theorem RoomAt.put(R:RoomAt Z G A S){s:Slot}(hs:zfI S s)(hl:∀ t,zfI S' t↔zfI S t)(h:∀ t,zfI S t->t≠s->obj Z S' A t=obj Z S A t):RoomAt Z (updG G (A s) (obj Z S' A s)) A S':=by
 refine⟨λt ht=>?_,λt u ht hu=>R.inj t u ((hl t).mp ht) ((hl u).mp hu)⟩
 by_cases e:t=s
 ·subst e; exact zaa
 ·rw[zab (R.ne ((hl t).mp ht) hs e),h t ((hl t).mp ht) e]; exact R.at' t ((hl t).mp ht)
theorem Fr.refl:Fr G A S G A S:=λa o h e=>⟨e,h⟩
theorem Fr.trans{G2:Gp}{A2:Adr}{S2:P.R}(f:Fr G A S G' A' S')(g:Fr G' A' S' G2 A2 S2):Fr G A S G2 A2 S2:=λa o h e =>
 let ⟨h1,h2⟩:=f a o h e; g a o h2 h1
theorem Fr.put{s:Slot}{o:GO}(hs:zfI S s)(hl:∀ t,zfI S' t↔zfI S t):Fr G A S (updG G (A s) o) A S':=λa u h e =>
 ⟨by rw[zab (λz=>h ⟨s,hs,z.symm⟩)]; exact e,λhu=>(by obtain⟨t,ht,e'⟩:=hu; exact h ⟨t,(hl t).mp ht,e'⟩)⟩
end
end Rm
namespace L2
open PySem PySem.Spec PyProof.Rows
def OnlyT(T:Addr)(H:Hp):Prop:=H T=some (.tbl #[])/\∀ b,b≠T->H b=none∨∃ o xs,H b=some (.frz o (.lst xs))
theorem law_callT{P:Program}{w:World}{K:W.Frag}{mg mb:Str->Option Value}{CX:CXT}{k:Nat}{fa a c T:Addr}{fd:FuncData}{x:Str}{sp:Sp}{s₁:Shared}{vs:List Value}{ns:List Int}
  (KX:K.In s₁.heap) (hns:s₁.heap.Ns mainGlobals mg) (hb:s₁.heap.Ns builtinsNs mb) (hbb:∀ x:Str,x≠"__name__"->mb x=bootBuiltins x) (hlim:s₁.heap.NoLimit) (hg:s₁.gens=#[])
  (hBM:∃ bm ob,mg "__builtins__"=some (.ref bm)/\bm≠builtinsNs/\s₁.heap.get? bm=some ob/\ob.cls=.type "module"/\ob.dict=some builtinsNs/\ob.data=.plain)
  (hT:s₁.heap.get? T=some (W.tabObj #[])) (hC:W.CodeHd s₁.heap c T) (hKT:K.lookup T=none)
  (ha:s₁.heap.get? a=some { cls:=.type "list",data:=.seq vs.toArray }) (hi:IntsAre vs ns) (hl:ns.length<=sizeLine) (hr:Room k callerA)
  (F:∀ base:Heap,K.In base->base.Ns mainGlobals mg->base.BuiltinsAt mg T->FnOk P w K mg base CX k fa fd [x] sp) (hbind:∀ (s:Shared) (u:Value),BindsTo s fd ⟨[u],[]⟩ [(x,u)])
  (hsp:∀ H:Hp,OnlyT T H->SqL K H a (ns.map V.int)->sp [.ref a] H (λv _=>v=.bl true) λ_ _ _=>False)
  (hCX:∀ H e s',CX [] H s₁ (λ_ _ _=>False) e s'->False) :
  codeAny (model P w) callerA (.call (.ref fa) ⟨[.ref a],[]⟩) (λr s'=>r=.ok (.ret (.bool true))/\OldK s₁.heap s'.heap/\s'.os=s₁.os/\AllBare s'.gens) s₁:=by
 have rv:=zfq hi
 have lenV:=hi.length
 have hTa:T≠a:=λz=>by rw[z,ha]at hT; cases hT
 have core:∀ H:Hp,OnlyT T H->SqL K H a (ns.map V.int)->HOk P w H s₁.heap->(∀ b,b≠T->H b≠none->b=a)->(H a≠none->K.lookup a=none) ->
   codeAny (model P w) callerA (.call (.ref fa) ⟨[.ref a],[]⟩) (λr s'=>r=.ok (.ret (.bool true))/\OldK s₁.heap s'.heap/\s'.os=s₁.os/\AllBare s'.gens) s₁:=by
  intro H hO hS hok hA hK
  have untr:∀ {b:Addr} {o:Obj},s₁.heap.get? b=some o->(∀ xs n,o.data≠.seq xs n)->(∀ xs,o.data≠.fields xs)->H b=none:=λ{b o} e d1 d2=>by
   cases q:H b with
   | none=>rfl
   | some u =>
    by_cases zT:b=T
    ·subst zT; rw[hT]at e; cases e; exact absurd rfl (d2 _)
    ·have e':b=a:=hA b zT (by rw[q]; simp)
     subst e'
     rw[ha]at e; cases e; exact absurd rfl (d1 _ _)
  have nsK:∀ {b:Addr} {m:Str->Option Value},s₁.heap.Ns b m->(hidT s₁.heap H).Ns b m:=λ{b m} ⟨o,es,ep,e,d,r⟩=>⟨o,es,ep,zhn e (untr e (λ_ _ z=>by rw[d]at z; cases z) λ_ z=>by rw[d]at z; cases z),d,r⟩
  have hKb:K.In (hidT s₁.heap H):=λb o e=>zhn (KX b o e) (by
   cases q:H b with
   | none=>rfl
   | some u =>
    have zT:b≠T:=λz=>by rw[z,hKT]at e; cases e
    have e':b=a:=hA b zT (by rw[q]; simp)
    subst e'
    rw[hK (by rw[q]; simp)]at e; cases e)
  have hM:Mod K mg (hidT s₁.heap H):=⟨hKb,nsK hns,⟨mb,nsK hb,hbb⟩,let ⟨mc,h1,h2⟩:=hlim; ⟨mc,nsK h1,h2⟩⟩
  have hBb:(hidT s₁.heap H).BuiltinsAt mg T:=by
   obtain⟨bm,ob,b1,b2,b3,b4,b5,b6⟩:=hBM
   refine⟨bm,ob,b1,b2,λz=>?_,λz=>?_,zhn b3 (untr b3 (λ_ _ z=>by rw[b6]at z; cases z) λ_ z=>by rw[b6]at z; cases z),b4,b5,b6⟩
   ·obtain⟨o,es,ep,e,hd,_⟩:=hns
    rw[z,e]at b3; cases b3; rw[hd]at b6; cases b6
   ·rw[z,hT]at b3; cases b3; cases b4
  have e0:Env0 P w K mg (hidT s₁.heap H) callerA [] s₁ H:=⟨rfl,hM,λb o e=>of_hidT e,Nat.le_of_eq (hidT_size _ _),trivial,λb hb=>absurd (show b∈([]:List Addr)from hb) (by simp),hok,.of_eq hg⟩
  refine codeAny_mono ((F _ hKb (nsK hns) hBb).run callerA [] s₁ H ⟨[.ref a],[]⟩ [.ref a] [.ref a] _ _ hr e0 (hbind s₁ (.ref a)) (.cons rfl .nil) (hsp H hO hS)) λr s' h=>?_
  cases r with
  | error e=>exact(hCX H e s' h).elim
  | ok fl =>
   cases fl with
   | next=>exact False.elim h
   | brk=>exact False.elim h
   | cont=>exact False.elim h
   | ret u =>
    obtain⟨v,H',os,bare,un,hok',r',q⟩:=h
    have q':v=.bl true:=q
    subst q'
    obtain rfl:u=Value.bool true:=r'
    obtain⟨more,hT'⟩:=un.tbls T _ hO.1
    have hT2:s'.heap.get? T=some (W.tabObj (#[]++more)):=hok' T _ hT'
    have kept:∀ b o,b≠T->s₁.heap.get? b=some o->s'.heap.get? b=some o:=λb o hb e=>by
     cases q:H b with
     | none=>exact un.keep b o e q (by intro z; exact absurd (show b∈([]:List Addr)from z) (by simp)) (by simp)
     | some u =>
      rcases hO.2 b hb with z | ⟨ob,xs,z⟩
      ·rw[q]at z; cases z
      ·have z2:=un.frzs b ob _ z
       obtain⟨e1,_⟩:=hok b _ z
       obtain⟨e2,_⟩:=hok' b _ z2
       rw[e]at e1; cases e1
       exact e2
    refine⟨rfl,⟨λb o e=>?_,λb o e=>?_⟩,os,bare⟩
    ·by_cases hb:b=T
     ·subst hb
      rw[hT]at e; cases e
      exact .inr (.inl ⟨(hC.tab hT).isCodeTable,rfl,_,more,rfl,hT2⟩)
     ·exact .inl (kept b o hb e)
    ·by_cases hb:b=T
     ·subst hb; exact⟨_,hT2⟩
     ·exact⟨o,kept b o hb e⟩
 cases hk:K.lookup a with
 | some o =>
  have e:=KX a o hk
  rw[ha]at e
  cases e
  refine core (λb=>if b=T then some (.tbl #[])else none) ⟨if_pos rfl,λb hb=>.inl (if_neg hb)⟩ (.inr ⟨_,vs.toArray,_,hk,rfl,rfl,rfl,by rw[List.size_toArray,lenV]; exact hl,by simpa using rv⟩) (λb u z=>?_) (λb hb z=>absurd (if_neg hb) z) λz=>absurd (if_neg (Ne.symm hTa)) z
  by_cases hb:b=T
  ·have z':=(if_pos hb).symm.trans z
   cases z'
   subst hb
   exact hT
  ·have z':=(if_neg hb).symm.trans z
   cases z'
 | none =>
  refine core (λb=>if b=T then some (.tbl #[])else if b=a then some (.frz { cls:=.type "list",data:=.seq vs.toArray } (.lst (ns.map V.int)))else none) ⟨if_pos rfl,λb hb=>?_⟩
   (.inl (.inr ⟨{ cls:=.type "list",data:=.seq vs.toArray },(if_neg (Ne.symm hTa)).trans (if_pos rfl)⟩)) (λb u z=>?_) (λb hb z=>?_) λ_=>hk
  ·by_cases hb':b=a
   ·exact .inr ⟨_,_,(if_neg hb).trans (if_pos hb')⟩
   ·exact .inl ((if_neg hb).trans (if_neg hb'))
  ·by_cases hb:b=T
   ·have z':=(if_pos hb).symm.trans z
    cases z'
    subst hb
    exact hT
   ·by_cases hb':b=a
    ·have z':=((if_neg hb).trans (if_pos hb')).symm.trans z
     cases z'
     subst hb'
     exact⟨ha,by rw[List.length_map]; exact hl,vs,_,rv,ha⟩
    ·have z':=((if_neg hb).trans (if_neg hb')).symm.trans z
     cases z'
  ·by_cases hb':b=a
   ·exact hb'
   ·exact absurd ((if_neg hb).trans (if_neg hb')) z
theorem walk_ofT{l:PySem.W.OpenLaw}{n k:Nat}{q:Program}{loose:List Str}{XP:(Str->Option Value)->Heap->Prop}{YP:World->Heap->Prop}{d:DefRec}{K:Params->PySem.W.Frag}{CX:World->CXT}{sp:World->Sp}{x:Str}{T:Addr}
  (hn:l.most=some n) (hn2:n<=sizeLine) (hdf:d.params.defaults=[]) (hr:Room k callerA)
  (hY:∀ (w:World) (h:Heap),YP w h->(K w.params).In h) (hY2:∀ (w:World) (h:Heap),YP w h->h.get? T=some (PySem.W.tabObj #[]))
  (F:∀ (w:World) (mg:Str->Option Value) (fa:Addr) (h:Heap),(K w.params).In h->h.Ns mainGlobals mg->mg d.name=some (.ref fa) ->
   (∃ c,PySem.W.codeHdIn (K w.params) c T=true)/\(K w.params).lookup T=none/\∃ fd:FuncData,(∀ (s:Shared) (u:Value),BindsTo s fd ⟨[u],[]⟩ [(x,u)]) /\
    ∀ base:Heap,(K w.params).In base->base.Ns mainGlobals mg->base.BuiltinsAt mg T->FnOk l.prog w (K w.params) mg base (CX w) k fa fd [x] (sp w))
  (hsp:∀ (w:World) (H:Hp) (a:Addr) (ns:List Int),ns.length<=n->OnlyT T H->SqL (K w.params) H a (ns.map V.int)->sp w [.ref a] H (λv _=>v=.bl true) λ_ _ _=>False)
  (hCX:∀ (w:World) (H:Hp) (s:Shared) (e:Value) (s':Shared),CX w [] H s (λ_ _ _=>False) e s'->False) :
  PySem.W.WalkO q loose XP YP l.row.toRowW d [] (λf vs=>PySem.call f vs):=by
 refine Att.attach_call hn hdf λw s₀ s₁ mg mb fa o pm cd doc a vs ns G Y ho hd hcd hmg hobj hints hlen hg=>?_
 have KX:=hY w _ Y
 obtain⟨⟨c,hc⟩,hKT,fd,hb,hF⟩:=F w mg fa _ KX G.T.g hmg
 exact law_callT KX G.T.g G.T.b G.T.builtins G.T.nolimit hg G.T.bmain (hY2 w _ Y) (PySem.W.codeHd_of_K KX hc) hKT hobj hints (Nat.le_trans hlen hn2) hr hF hb (λH hO hS=>hsp w H a ns hlen hO hS) λH e s'=>hCX w H s₁ e s'
end L2
namespace L3
open PySem PySem.Spec PyProof.Rows L2
theorem ok3c{P:Program}{w:World}{K:PySem.W.Frag}{mg:Str->Option Value}{base:Heap}{x qual:Str}{st:Stmt}{f c:Addr}{fd:FuncData}{N ps:List Str}{k:Nat}{sp:Sp3}(F:Fun K x qual st f fd)(hc:fd.code=.ref c)(S:FnScope N ps (zac st))
  (len:∀ ts G Q,sp ts G Q->ts.length=ps.length)
  (hbody:∀ (A:Around) (outer:List Env) (s:Shared) (H:Hp) (E:XK),Room k (A.deeper (envOfC qual (zac st) s.heap.objs.size f (.ref c))) ->
   ∃ t,QSs (cxOf CX0 P w K mg base N qual (zac st) f (.ref c) A outer s H E).nox (zdn st) t/\∀ ts G Q,sp ts G Q->t { nx:=λ_ G'=>Q .non G',rt:=Q } (zad N.length ts) G) :
  FOk P w K mg base (k+1) f fd ps sp:=by
 obtain⟨oc,od,kV,doc,pm,an,cdv,ct,osl,rfl,lk,hcd⟩:=F.ex
 obtain rfl:cdv=.ref c:=hc
 refine fn_of lk hcd S (λvs H Q E hu=>(by obtain⟨ts,G,Q3,d,_,h,_⟩:=hu; exact d.length.trans (len ts G Q3 h))) λA outer s H vs Q E hr h=>?_
 obtain⟨ts,G,Q3,d,r,h,i⟩:=h
 obtain⟨t,h1,h2⟩:=hbody A outer s H E hr
 refine⟨_,h1.nox,zad N.length ts,G,_,Sts.start N d,r,h2 ts G Q3 h,?_⟩
 exact⟨λτ G' σ' H' q k _ r'=>i _ G' _ H' q k .non r',i,λ_ _ _ _ q _ _ _=>False.elim q,λ_ _ _ _ q _ _ _=>False.elim q⟩
end L3
namespace Rm
open PySem PySem.Spec PyProof.Rows L2 L3
def zhF(t:Addr)(q:Str)(pos:Pos):Sp3:=λts G Q=>∃ ns:List Int,ts=[.fro (ns.map T.int)]/\ns.length<=63/\G t=some (.tab q pos)/\∀ G',Q (.bl true) G'
theorem law_startT{K:KW}{H:Hp}{a t:Addr}{q:Str}{pos:Pos}{ns:List Int}{E:XK}(hl:ns.length<=63)(hO:OnlyT t H)(hS:SqL K.k H a (ns.map V.int)):lSp K (zhF t q pos) [.ref a] H (λv _=>v=.bl true) E:=by
 have hF:SqF K.k H a (ns.map V.int):=by
  rcases hS with (h | ⟨o,h⟩) | h
  ·by_cases z:a=t
   ·rw[z,hO.1]at h; cases h
   ·rcases hO.2 a z with z | ⟨o,xs,z⟩<;>rw[h]at z<;>cases z
  ·exact .inl ⟨o,h⟩
  ·exact .inr h
 refine⟨[.fro (ns.map T.int)],λb=>if b=t then some (.tab q pos)else none,λt _=>t=.bl true,.cons (.fro hF (Dens.ints ns)) .nil,(λb o e=>?_),⟨ns,rfl,hl,if_pos rfl,λ_=>rfl⟩,λt G' v H' q _ d _=>by subst q; cases d; rfl⟩
 by_cases z:b=t
 ·subst z
  have e':some (GO.tab q pos)=some o:=(if_pos rfl).symm.trans e
  cases e'
  exact⟨#[],hO.1,.inl rfl⟩
 ·have e':none=some o:=(if_neg z).symm.trans e
  cases e'
theorem RoomAt.notab{Z:Cz}{G:Gp}{A:Adr}{S:P.R}(R:RoomAt Z G A S){t:Addr}{q:Str}{pos:Pos}(h:G t=some (.tab q pos)):¬ own A S t:=by
 rintro⟨s,hs,rfl⟩
 rw[R.at' s hs]at h
 cases s<;>simp only[obj,wrO,zd4,akO]at h<;>first | (cases h; done) | (split at h<;>cases h)
def FnAtB(P:Program)(w:World)(K:W.Frag)(mg:Str->Option Value)(base:Heap)(k:Nat)(x:Str)(ps:List Str)(pre:zff):Prop :=
 ∃ f fd,BOk P w K mg base k f fd ps pre/\mg x=some (.ref f)/\W.keepIn K (.ref f)=true/\zcl K fd ps []
def zbp(P:Program)(w:World)(K:W.Frag)(mg:Str->Option Value)(base:Heap)(k:Nat)(C:Addr)(m:Str)(ps:List Str)(pre:zff):Prop :=
 ∃ f fd,BOk P w K mg base k f fd ps pre/\Cls K C/\Meth K C m f/\zcl K fd ps []
theorem zbp.mono{P:Program}{w:World}{K:W.Frag}{mg:Str->Option Value}{base:Heap}{j k:Nat}{C:Addr}{m:Str}{ps:List Str}{pre:zff}(F:zbp P w K mg base j C m ps pre)(h:j<=k):zbp P w K mg base k C m ps pre :=
 let ⟨f,fd,F,r⟩:=F; ⟨f,fd,FnOk.mono F h,r⟩
section
variable {X:Cx}{e o:Expr}{es:List Expr}{p pos apos:Pos}{ta:TE3}{t:TA3}{k:Nat}{C:Addr}{ps:List Str}{pre:zff}{x m n:Str}{G0:Gp}{C0:Addr}
theorem zb6{pl:Sem Bool}(he:QE X o ta)(F:zbp X.prog X.w X.K X.mg X.base k C m ps pre)(hr:Room k X.A)(hx:zdv (CXr X.prog X.w) X (λv _ H'=>v=.ref C0/\HR X.kw H' G0))(ha:QA X (e::es) t)
  (hst:starEach (e::es) X.env=(false,eval e X.env)::starEach es X.env:=by rfl) (hpl:(backTo pos (starEach es X.env)).any (·.1)=false:=by rfl)
  (ht:eval (.Call (.Attribute o m apos) (e::es) [] pos) X.env=(do
   let ov <- eval o X.env
   standAt apos.atName
   let (f,first) <- holding [ov] (getMethod ov m pl)
   callWith pos f first (backTo pos (starEach (e::es) X.env)) (backToKw pos (keywordEach [] X.env))):=by rfl) :
  QE X (.Call (.Attribute o m apos) (e::es) [] pos) (zdp C m pre G0 C0 ta t):=by
 obtain⟨f,fd,F,c,hm,hb⟩:=F
 exact qmethB he c hm F hr hb hx ha hst hpl ht
theorem ccatch(F:FnAtB X.prog X.w X.K X.mg X.base k x ps pre)(hr:Room k X.A)(ha:QA X (e::es) t){R:Addr}{rx:Str}{rp epos hpos tpos:Pos}{i:Nat}{b0:Stmt}{suite:List Stmt}{u:Addr->Obj->TS3}(hR:X.mg rx=some (.ref R))(hN:X.N.Nodup)
  (hs:∀ ea oe,QSs (X.held ea oe) (b0::suite) (u ea oe)) (hst:X.stack=X.env::X.outer:=by rfl) (hfm:X.env.frame=some X.env.locals:=by rfl) (hnx:∀ v s,¬ X.xe v s:=by exact λ_ _ z=>z) (hi:X.N[i]?=some n:=by rfl) (hl:X.env.kindOf n=some .local:=by rfl) (hg:Gl X x:=by rfl) (hgR:Gl X rx:=by rfl)
  (hdb:(x==("__debug__":Str))=false:=by decide) (hdr:(rx==("__debug__":Str))=false:=by decide) (he:starEach (e::es) X.env=(false,eval e X.env)::starEach es X.env:=by rfl) (hpl:(backTo pos (starEach es X.env)).any (·.1)=false:=by rfl)
  (hsw:swapsWith (.Call (.Name x p) (e::es) [] pos) none epos.line X.env=pure false:=by rfl) :
  QS X (.Try [.Expr (.Call (.Name x p) (e::es) [] pos) epos] [.ExceptHandler (some (.Name rx rp)) (some n) (b0::suite) hpos] [] [] tpos) (zjh X.K R i pre t u):=by
 obtain⟨f,fd,F,hm,hk,hb⟩:=F
 exact qcatch hst hfm F hr hm hk hb ha hnx hR hN hs hi hl hg hgR hdb hdr he hpl hsw
end
theorem zfW:bootBuiltins "ValueError"=some (.type "ValueError"):=by decide +kernel
structure Xs(K:PySem.W.Frag)(mg:Str->Option Value)(Z:Cz):Prop where
 kt:XKit K
 gA:mg "NoAsker"=some (.ref Z.xA)
 gV:mg "NoVoter"=some (.ref Z.xV)
 gL:mg "NoLetter"=some (.ref Z.xL)
 gR:mg "RoomError"=some (.ref Z.xR)
 qA:PySem.W.excIn K Z.xA bmVE "ValueError.__new__"=true
 qV:PySem.W.excIn K Z.xV bmVE "ValueError.__new__"=true
 qL:PySem.W.excIn K Z.xL bmVE "ValueError.__new__"=true
 cA:XCls K Z.xA
 cV:XCls K Z.xV
 cL:XCls K Z.xL
 rA:PySem.W.exmOne K (.ref Z.xA) (.ref Z.xR)=some true
 rV:PySem.W.exmOne K (.ref Z.xV) (.ref Z.xR)=some true
 rL:PySem.W.exmOne K (.ref Z.xL) (.ref Z.xR)=some true
 kA:PySem.W.kitOne K (.ref Z.xA) (.ref Z.xA)=some true/\PySem.W.kitOne K (.ref Z.xA) (.ref Z.xV)=some false/\PySem.W.kitOne K (.ref Z.xA) (.ref Z.xL)=some false/\PySem.W.kitOne K (.ref Z.xA) (.type "ValueError")=some true
 kV:PySem.W.kitOne K (.ref Z.xV) (.ref Z.xA)=some false/\PySem.W.kitOne K (.ref Z.xV) (.ref Z.xV)=some true/\PySem.W.kitOne K (.ref Z.xV) (.ref Z.xL)=some false/\PySem.W.kitOne K (.ref Z.xV) (.type "ValueError")=some true
 kL:PySem.W.kitOne K (.ref Z.xL) (.ref Z.xA)=some false/\PySem.W.kitOne K (.ref Z.xL) (.ref Z.xV)=some false/\PySem.W.kitOne K (.ref Z.xL) (.ref Z.xL)=some true/\PySem.W.kitOne K (.ref Z.xL) (.type "ValueError")=some true
end Rm
namespace Rm
open PySem L2 L3
def Ext(G G':Gp):Prop:=∀ a o,G a=some o->G' a=some o
theorem Ext.refl{G:Gp}:Ext G G:=λ_ _ h=>h
theorem Ext.trans{G G1 G2:Gp}(a:Ext G G1)(b:Ext G1 G2):Ext G G2:=λx o h=>b x o (a x o h)
theorem Ext.new{G:Gp}{a:Addr}{o:GO}(h:G a=none):Ext G (updG G a o):=λb u e=>by rw[zab (neG e h)]; exact e
theorem Ext.none{G G':Gp}(x:Ext G G'){a:Addr}(h:G' a=none):G a=none:=by
 cases e:G a with
 | none=>rfl
 | some o=>rw[x a o e]at h; cases h
section
variable {Z:Cz}{G G':Gp}{A A':Adr}{S S':P.R}
theorem RoomAt.ext(R:RoomAt Z G A S)(x:Ext G G'):RoomAt Z G' A S:=⟨λs hs=>x _ _ (R.at' s hs),R.inj⟩
theorem Fr.ext(x:Ext G G'):Fr G A S G' A S:=λa o h e=>⟨x a o e,h⟩
structure Bk(Lv:Slot->Prop)(O:Adr->Slot->GO)(G0:Gp)(A:Adr)(G:Gp):Prop where
 at':∀ s,Lv s->G (A s)=some (O A s)
 inj:∀ s t,Lv s->Lv t->A s=A t->s=t
 new:∀ s,Lv s->G0 (A s)=none
 old:Ext G0 G
theorem Bk.start{O:Adr->Slot->GO}{G0:Gp}:Bk (λ_=>False) O G0 A G0:=⟨λ_ h=>h.elim,λ_ _ h=>h.elim,λ_ h=>h.elim,Ext.refl⟩
theorem Bk.add{Lv:Slot->Prop}{O:Adr->Slot->GO}{G0:Gp}(B:Bk Lv O G0 A G){s:Slot}{a:Addr}(hs:¬ Lv s)(ha:G a=none)(hO:∀ t,Lv t->O (M.upd A s a) t=O A t) :
  Bk (λt=>Lv t∨t=s) O G0 (M.upd A s a) (updG G a (O (M.upd A s a) s)):=by
 have ne:∀ t,Lv t->M.upd A s a t=A t:=λt ht=>by
  unfold M.upd; rw[if_neg]; rintro rfl; exact hs ht
 have es:M.upd A s a s=a:=by unfold M.upd; rw[if_pos rfl]
 have na:∀ t,Lv t->A t≠a:=λt ht e=>by have:=B.at' t ht; rw[e,ha]at this; cases this
 refine⟨λt ht=>?_,λt u ht hu e=>?_,λt ht=>?_,λb o e=>?_⟩
 ·rcases ht with ht | rfl
  ·rw[ne t ht,zab (na t ht),hO t ht]; exact B.at' t ht
  ·rw[es,zaa]
 ·rcases ht with ht | rfl<;>rcases hu with hu | rfl
  ·rw[ne t ht,ne u hu]at e; exact B.inj t u ht hu e
  ·rw[ne t ht,es]at e; exact absurd e (na t ht)
  ·rw[ne u hu,es]at e; exact absurd e.symm (na u hu)
  ·rfl
 ·rcases ht with ht | rfl
  ·rw[ne t ht]; exact B.new t ht
  ·rw[es]; exact B.old.none ha
 ·rw[zab (neG (B.old b o e) ha)]; exact B.old b o e
theorem Bk.lv{Lv Lv':Slot->Prop}{O:Adr->Slot->GO}{G0:Gp}(B:Bk Lv O G0 A G)(h:∀ s,Lv' s->Lv s):Bk Lv' O G0 A G :=
 ⟨λs hs=>B.at' s (h s hs),λs t hs ht=>B.inj s t (h s hs) (h t ht),λs hs=>B.new s (h s hs),B.old⟩
def LvA(k:Nat):Slot->Prop
 | .p=>True
 | .pr=>True
 | .pw=>True
 | .as j=>j < k
 | .nt j=>j < k
 | .ak j=>j < k
 | _=>False
def LvV(n k:Nat):Slot->Prop
 | .p=>True
 | .pr=>True
 | .pw=>True
 | .la=>True
 | .as j=>j < n
 | .nt j=>j < n
 | .ak j=>j < n
 | .vs v=>v < k
 | _=>False
theorem zfg(A:Adr)(s t:Slot)(a:Addr):M.upd A s a t=if t=s then a else A t:=rfl
theorem Bk.asker{W:List Int}{m i:Nat}{G0:Gp}(B:Bk (LvA i) (obj Z (P.new W m)) G0 A G){x q d:Addr}(hx:G x=none)(hq:G q=none)(hd:G d=none)(n1:q≠x)(n2:d≠x)(n3:q≠d) :
  ∃ A',(∀ t,LvA i t->A' t=A t)/\A' (.as i)=x/\Bk (LvA (i+1)) (obj Z (P.new W m)) G0 A' (updG (updG (updG G q (.dK [])) d (.dK [])) x (.ins Z.A (fA (.int i) (.int W.length) (.int (W.getD i 0)) (.int m) .non (.int 0) (.ref q) (.ref d)))):=by
 have st:∀ (A1:Adr) (s:Slot) (a:Addr),(s=.nt i∨s=.ak i∨s=.as i)->∀ t,LvA i t->obj Z (P.new W m) (M.upd A1 s a) t=obj Z (P.new W m) A1 t:=by
  intro A1 s a hs t ht
  cases t with
  | as j =>
   have hj:j≠i:=by simp only[LvA]at ht; lia
   rcases hs with rfl | rfl | rfl<;>simp[obj,zfg,hj]
  | p=>rcases hs with rfl | rfl | rfl<;>simp[obj,zfg]
  | pr=>simp[obj]
  | pw=>simp[obj]
  | nt j=>simp[obj]
  | ak j=>simp[obj]
  | r=>exact ht.elim
  | la=>exact ht.elim
  | lv=>exact ht.elim
  | vs v=>exact ht.elim
 have B1:=B.add (s:=.nt i) (a:=q) (by simp[LvA]) hq (st A _ q (.inl rfl))
 have B2:=B1.add (s:=.ak i) (a:=d) (by simp[LvA]) (by rw[zab (Ne.symm n3)]; exact hd) (λt ht=>by
  rcases ht with ht | rfl
  ·exact st _ _ d (.inr (.inl rfl)) t ht
  ·simp[obj])
 have B3:=B2.add (s:=.as i) (a:=x) (by simp[LvA]) (by rw[zab (Ne.symm n2),zab (Ne.symm n1)]; exact hx) (λt ht=>by
  rcases ht with (ht | rfl) | rfl
  ·exact st _ _ x (.inr (.inr rfl)) t ht
  ·simp[obj]
  ·simp[obj])
 have B4:=B3.lv (Lv':=LvA (i+1)) λt ht=>by
  cases t<;>simp[LvA]at ht ⊢<;>lia
 refine⟨M.upd (M.upd (M.upd A (.nt i) q) (.ak i) d) (.as i) x,λt ht=>?_,?_,?_⟩
 case refine_3 =>
  have e1:obj Z (P.new W m) (M.upd A (.nt i) q) (.nt i)=.dK []:=by simp[obj,P.new,zd4]
  have e2:obj Z (P.new W m) (M.upd (M.upd A (.nt i) q) (.ak i) d) (.ak i)=.dK []:=by simp[obj,P.new,akO]
  have e3:obj Z (P.new W m) (M.upd (M.upd (M.upd A (.nt i) q) (.ak i) d) (.as i) x) (.as i)=.ins Z.A (fA (.int i) (.int W.length) (.int (W.getD i 0)) (.int m) .non (.int 0) (.ref q) (.ref d)):=by
   simp[obj,P.new,zfg,oI]
  rw[e1,e2,e3]at B4
  exact B4
 ·cases t<;>simp only[LvA]at ht<;>simp[zfg]
  all_goals (intro h; lia)
 ·simp[zfg]
theorem Bk.voter{W:List Int}{m i:Nat}{G0:Gp}(B:Bk (LvV W.length i) (obj Z (P.new W m)) G0 A G){x:Addr}(hx:G x=none) :
  ∃ A',(∀ t,LvV W.length i t->A' t=A t)/\A' (.vs i)=x/\Bk (LvV W.length (i+1)) (obj Z (P.new W m)) G0 A' (updG G x (.ins Z.V (fV (.int i) .non .non))):=by
 have B1:=B.add (s:=.vs i) (a:=x) (by simp[LvV]) hx (λt ht=>by
  cases t with
  | lv=>exact ht.elim
  | r=>exact ht.elim
  | _=>simp[obj,zfg])
 have B4:=B1.lv (Lv':=LvV W.length (i+1)) λt ht=>by
  cases t<;>simp[LvV]at ht ⊢<;>lia
 refine⟨M.upd A (.vs i) x,λt ht=>?_,?_,?_⟩
 case refine_3 =>
  have e3:obj Z (P.new W m) (M.upd A (.vs i) x) (.vs i)=.ins Z.V (fV (.int i) .non .non):=by simp[obj,P.new,oI,oP]
  rw[e3]at B4
  exact B4
 ·cases t<;>simp only[LvV]at ht<;>simp[zfg]
  all_goals (intro h; lia)
 ·simp[zfg]
theorem Bk.rebase{Lv:Slot->Prop}{O:Adr->Slot->GO}{G0:Gp}(B:Bk Lv O G0 A G){r:Addr}{o u:GO}(h:G0 r=some o):Bk Lv O (updG G0 r u) A (updG G r u):=by
 have ne:∀ s,Lv s->A s≠r:=λs hs e=>by have:=B.new s hs; rw[e,h]at this; cases this
 refine⟨λs hs=>by rw[zab (ne s hs)]; exact B.at' s hs,B.inj,λs hs=>by rw[zab (ne s hs)]; exact B.new s hs,λa w e=>?_⟩
 by_cases c:a=r
 ·subst c; rw[zaa]at e ⊢; exact e
 ·rw[zab c]at e ⊢; exact B.old a w e
theorem Bk.pile{W:List Int}{m:Nat}{G0:Gp}{p q d:Addr}(hp:G0 p=none)(hq:G0 q=none)(hd:G0 d=none)(n1:q≠p)(n2:d≠p)(n3:q≠d) :
  ∃ A,A .p=p/\Bk (LvA 0) (obj Z (P.new W m)) G0 A (updG (updG (updG G0 q (.lst [])) d (.dK [])) p (.ins Z.P (fP (.ref q) (.ref d)))):=by
 have B0:Bk (λ_=>False) (obj Z (P.new W m)) G0 (λ_=>p) G0:=Bk.start
 have B1:=B0.add (s:=.pr) (a:=q) (by simp) hq (λt ht=>ht.elim)
 have B2:=B1.add (s:=.pw) (a:=d) (by simp) (by rw[zab (Ne.symm n3)]; exact hd) (λt ht=>by
  rcases ht with ht | rfl
  ·exact ht.elim
  ·simp[obj])
 have B3:=B2.add (s:=.p) (a:=p) (by simp) (by rw[zab (Ne.symm n2),zab (Ne.symm n1)]; exact hp) (λt ht=>by
  rcases ht with (ht | rfl) | rfl
  ·exact ht.elim
  ·simp[obj]
  ·simp[obj])
 have B4:=B3.lv (Lv':=LvA 0) λt ht=>by
  cases t<;>simp[LvA]at ht ⊢
 refine⟨M.upd (M.upd (M.upd (λ_=>p) .pr q) .pw d) .p p,by simp[zfg],?_⟩
 have e1:obj Z (P.new W m) (M.upd (λ_=>p) .pr q) .pr=.lst []:=by simp[obj,P.new]
 have e2:obj Z (P.new W m) (M.upd (M.upd (λ_=>p) .pr q) .pw d) .pw=.dK []:=by simp[obj,P.new,wrO]
 have e3:obj Z (P.new W m) (M.upd (M.upd (M.upd (λ_=>p) .pr q) .pw d) .p p) .p=.ins Z.P (fP (.ref q) (.ref d)):=by simp[obj,zfg]
 rw[e1,e2,e3]at B4
 exact B4
theorem Bk.la{W:List Int}{m:Nat}{G0:Gp}(B:Bk (LvA W.length) (obj Z (P.new W m)) G0 A G){x:Addr}(hx:G x=none) :
  Bk (LvV W.length 0) (obj Z (P.new W m)) G0 (M.upd A .la x) (updG G x (.lst ((List.range W.length).map λi=>.ref (A (.as i))))):=by
 have B1:=B.add (s:=.la) (a:=x) (by simp[LvA]) hx (λt ht=>by cases t<;>first | exact ht.elim | simp[obj,zfg])
 have e1:obj Z (P.new W m) (M.upd A .la x) .la=.lst ((List.range W.length).map λi=>.ref (A (.as i))):=by simp[obj,zfg,P.new]
 rw[e1]at B1
 refine B1.lv λt ht=>?_
 cases t<;>simp[LvA,LvV]at ht ⊢<;>exact ht
theorem Bk.room{W:List Int}{m:Nat}{G0:Gp}(B:Bk (LvV W.length m) (obj Z (P.new W m)) G0 A G){x r:Addr}{o:GO}(hx:G x=none)(h0:G0 r=some o) :
  RoomAt Z (updG (updG G x (.lst ((List.range m).map λi=>.ref (A (.vs i))))) r (.ins Z.R (fR (.int m) (.ref (A .p)) (.ref (A .la)) (.ref x)))) (M.upd (M.upd A .lv x) .r r) (P.new W m) /\
  ∀ a u,a≠r->G0 a=some u->updG (updG G x (.lst ((List.range m).map λi=>.ref (A (.vs i))))) r (.ins Z.R (fR (.int m) (.ref (A .p)) (.ref (A .la)) (.ref x))) a=some u/\¬ own (M.upd (M.upd A .lv x) .r r) (P.new W m) a:=by
 have B1:=B.add (s:=.lv) (a:=x) (by simp[LvV]) hx (λt ht=>by cases t<;>first | exact ht.elim | simp[obj,zfg])
 have e1:obj Z (P.new W m) (M.upd A .lv x) .lv=.lst ((List.range m).map λi=>.ref (A (.vs i))):=by simp[obj,zfg,P.new]
 rw[e1]at B1
 have B2:=B1.rebase (u:=.ins Z.R (fR (.int m) (.ref (A .p)) (.ref (A .la)) (.ref x))) h0
 have lv:∀ s,zfI (P.new W m) s->s≠.r->(LvV W.length m s∨s=.lv):=λs hs hn=>by
  cases s<;>simp[zfI,P.new,LvV]at hs ⊢<;>first | exact hs | exact hn rfl
 have ne:∀ s,(LvV W.length m s∨s=.lv)->s≠.r:=λs hs e=>by
  subst e; rcases hs with hs | hs
  ·exact hs
  ·cases hs
 have nr:∀ s,(LvV W.length m s∨s=.lv)->M.upd A .lv x s≠r:=λs hs e=>by
  have:=B2.new s hs; rw[e,zaa]at this; cases this
 have uo:∀ s,s≠.r->M.upd (M.upd A .lv x) .r r s=M.upd A .lv x s:=λs h=>by rw[zfg,if_neg h]
 have ur:M.upd (M.upd A .lv x) .r r .r=r:=by rw[zfg,if_pos rfl]
 refine⟨⟨λs hs=>?_,λs t hs ht e=>?_⟩,λa u ha e=>⟨?_,?_⟩⟩
 ·by_cases e:s=.r
  ·subst e
   rw[ur,zaa]
   simp[obj,zfg,P.new]
  ·rw[uo s e,B2.at' s (lv s hs e)]
   cases s<;>first | exact absurd rfl e | simp[obj,zfg]
 ·by_cases e1:s=.r<;>by_cases e2:t=.r
  ·rw[e1,e2]
  ·subst e1; rw[ur,uo t e2]at e; exact absurd e.symm (nr t (lv t ht e2))
  ·subst e2; rw[ur,uo s e1]at e; exact absurd e (nr s (lv s hs e1))
  ·rw[uo s e1,uo t e2]at e; exact B2.inj s t (lv s hs e1) (lv t ht e2) e
 ·exact B2.old a u (by rw[zab ha]; exact e)
 ·rintro⟨s,hs,e'⟩
  by_cases e1:s=.r
  ·subst e1; rw[ur]at e'; exact ha e'.symm
  ·rw[uo s e1]at e'
   have:=B2.new s (lv s hs e1)
   rw[e',zab ha,e]at this; cases this
theorem RoomAt.write(R:RoomAt Z G A S){x:M.Let}(h:x∉S.letters):RoomAt Z (updG (updG G (A .pw) (wrO (S.letters++[x]))) (A .pr) (.lst ((S.letters++[x]).map zbB))) A (S.write x):=by
 have el:(S.write x).letters=S.letters++[x]:=by simp[P.R.write,M.write,h]
 refine⟨λs hs=>?_,λs t hs ht=>R.inj s t hs ht⟩
 have hs':zfI S s:=hs
 by_cases e1:s=.pr
 ·subst e1; rw[zaa]; simp only[obj,el]
 ·rw[zab (R.ne hs' (t:=.pr) trivial e1)]
  by_cases e2:s=.pw
  ·subst e2; rw[zaa]; simp only[obj,el]
  ·rw[zab (R.ne hs' (t:=.pw) trivial e2),R.at' s hs']
   cases s<;>first | rfl | exact absurd rfl e1 | exact absurd rfl e2
theorem Fr.write{x:M.Let}{o u:GO}:Fr G A S (updG (updG G (A .pw) o) (A .pr) u) A (S.write x):=λa w h e =>
 ⟨by rw[zab (λz=>h ⟨.pr,trivial,z.symm⟩),zab (λz=>h ⟨.pw,trivial,z.symm⟩)]; exact e,h⟩
theorem RoomAt.wrote(R:RoomAt Z G A S)(x:M.Let){G':Gp}(e:G'=if x∈S.letters then G else updG (updG G (A .pw) (wrO (S.letters++[x]))) (A .pr) (.lst ((S.letters++[x]).map zbB))):RoomAt Z G' A (S.write x)/\Fr G A S G' A (S.write x):=by
 subst e
 by_cases h:x∈S.letters
 ·have:S.write x=S:=by simp[P.R.write,M.write,h]
  rw[if_pos h,this]
  exact⟨R,Fr.refl⟩
 ·rw[if_neg h]
  exact⟨R.write h,Fr.write⟩
theorem RoomAt.fall(R:RoomAt Z G A S){i:Nat}(hi:i < S.wishes.length):RoomAt Z (updG G (A (.as i)) (.ins Z.A (fA (.int i) (.int S.wishes.length) (.int (S.wishes.getD i 0)) (.int S.many) .non (.int (S.askers i).fresh) (.ref (A (.nt i))) (.ref (A (.ak i)))))) A (S.fall i):=by
 have e:obj Z (S.fall i) A (.as i)=.ins Z.A (fA (.int i) (.int S.wishes.length) (.int (S.wishes.getD i 0)) (.int S.many) .non (.int (S.askers i).fresh) (.ref (A (.nt i))) (.ref (A (.ak i)))):=by
  simp[obj,P.R.fall,P.R.setA,M.upd,oI]
 rw[<- e]
 refine R.put (s:=.as i) hi (λt=>Iff.rfl) λt ht hn=>?_
 cases t with
 | as j =>
  have hj:j≠i:=λz=>hn (by rw[z])
  simp[obj,P.R.fall,P.R.setA,M.upd,hj]
 | nt j=>by_cases hj:j=i<;>simp[obj,P.R.fall,P.R.setA,M.upd,hj]
 | ak j=>by_cases hj:j=i<;>simp[obj,P.R.fall,P.R.setA,M.upd,hj]
 | _=>rfl
theorem RoomAt.begin(R:RoomAt Z G A S){i:Nat}(hi:i < S.wishes.length){d:Addr}(hd:G d=none)(b f:Int) :
  RoomAt Z (updG (updG G d (.dK [])) (A (.as i)) (.ins Z.A (fA (.int i) (.int S.wishes.length) (.int (S.wishes.getD i 0)) (.int S.many) (.int b) (.int f) (.ref d) (.ref (A (.ak i)))))) (M.upd A (.nt i) d) (S.setA i { S.askers i with ballot:=some b,fresh:=f,noted:=[] }) /\
  Fr G A S (updG (updG G d (.dK [])) (A (.as i)) (.ins Z.A (fA (.int i) (.int S.wishes.length) (.int (S.wishes.getD i 0)) (.int S.many) (.int b) (.int f) (.ref d) (.ref (A (.ak i)))))) (M.upd A (.nt i) d) (S.setA i { S.askers i with ballot:=some b,fresh:=f,noted:=[] }):=by
 have nd:∀ s,zfI S s->A s≠d:=λs hs e=>by have:=R.at' s hs; rw[e,hd]at this; cases this
 have ua:∀ t,t≠.nt i->M.upd A (.nt i) d t=A t:=λt h=>by rw[zfg,if_neg h]
 have uo:M.upd A (.nt i) d (.nt i)=d:=by rw[zfg,if_pos rfl]
 constructor
 ·refine⟨λs hs=>?_,λs t hs ht e=>?_⟩
  ·have hs':zfI S s:=hs
   by_cases e1:s=.nt i
   ·subst e1
    rw[uo,zab (Ne.symm (nd (.as i) hi)),zaa]
    simp[obj,P.R.setA,M.upd,zd4]
   ·rw[ua s e1]
    by_cases e2:s=.as i
    ·subst e2
     rw[zaa]
     simp[obj,P.R.setA,M.upd,oI]
    ·rw[zab (R.ne hs' (t:=.as i) hi e2),zab (nd s hs'),R.at' s hs']
     cases s with
     | as j =>
      have hj:j≠i:=λz=>e2 (by rw[z])
      simp[obj,P.R.setA,M.upd,hj]
     | nt j =>
      have hj:j≠i:=λz=>e1 (by rw[z])
      simp[obj,P.R.setA,M.upd,hj]
     | ak j=>by_cases hj:j=i<;>simp[obj,P.R.setA,M.upd,hj]
     | _=>simp[obj,P.R.setA,M.upd]
  ·have hs':zfI S s:=hs
   have ht':zfI S t:=ht
   by_cases e1:s=.nt i<;>by_cases e2:t=.nt i
   ·rw[e1,e2]
   ·subst e1; rw[uo,ua t e2]at e; exact absurd e.symm (nd t ht')
   ·subst e2; rw[uo,ua s e1]at e; exact absurd e (nd s hs')
   ·rw[ua s e1,ua t e2]at e; exact R.inj s t hs' ht' e
 ·intro a o h e
  refine⟨?_,?_⟩
  ·rw[zab (λz=>h ⟨.as i,hi,z.symm⟩),zab (neG e hd)]; exact e
  ·rintro⟨s,hs,e'⟩
   by_cases e1:s=.nt i
   ·subst e1; rw[uo]at e'; subst e'; rw[hd]at e; cases e
   ·rw[ua s e1]at e'; exact h ⟨s,hs,e'⟩
end
theorem zex{f:T->Option PyData}(hf:∀ t d,f t=some d->PyData.eqv d d=true):∀ {ts:List T} {ds:List PyData},zd8 f ts=some ds->PyData.eqvAll ds ds=true
 | [],ds,h=>by cases h; rfl
 | t::r,ds,h=>by
  simp only[zd8]at h
  split at h
  ·rename_i d ds' e1 e2
   cases h
   have h1:=hf t d e1
   have h2:=zex hf e2
   show(PyData.eqv d d&&PyData.eqvAll ds' ds')=true
   rw[h1,h2]; rfl
  ·cases h
theorem zjk{G:Gp}:∀ (n:Nat) (t:T) (d:PyData),toD G n t=some d->PyData.eqv d d=true:=by
 intro n
 induction n with
 | zero =>
  intro t d h
  cases t<;>simp only[toD]at h<;>first | (cases h; done) | (cases h; simp[PyData.eqv]; done) | skip
  split at h
  ·cases h; simp[PyData.eqv]
  ·cases h
 | succ n ih =>
  intro t d h
  cases t with
  | tup ts =>
   simp only[toD,Option.map_eq_some_iff]at h
   obtain⟨ds,e,rfl⟩:=h
   exact zex (f:=toD G n) (λt d=>ih t d) e
  | fro ts =>
   simp only[toD,Option.map_eq_some_iff]at h
   obtain⟨ds,e,rfl⟩:=h
   exact zex (f:=toD G n) (λt d=>ih t d) e
  | ref p =>
   simp only[toD]at h
   split at h
   ·simp only[Option.map_eq_some_iff]at h
    obtain⟨ds,e,rfl⟩:=h
    exact zex (f:=toD G n) (λt d=>ih t d) e
   ·cases h
  | str x =>
   simp only[toD]at h
   split at h
   ·cases h; simp[PyData.eqv]
   ·cases h
  | _=>simp only[toD]at h; cases h<;>simp[PyData.eqv]
noncomputable def oD:Option Int->PyData
 | none=>.none
 | some i=>.int i
noncomputable def oPD:Option (Int×Int)->PyData
 | none=>.none
 | some q=>.tuple [.int q.1,.int q.2]
noncomputable def letD:M.Let->PyData
 | .prepare b=>.tuple [.str "prepare",.int b]
 | .promise b v l=>.tuple [.str "promise",.int b,.int v,oPD l]
 | .ask b w=>.tuple [.str "ask",.int b,.int w]
 | .vote b v w=>.tuple [.str "vote",.int b,.int v,.int w]
theorem zjl(G:Gp)(n:Nat)(o:Option Int):toD G n (oI o)=some (oD o):=by cases o<;>simp[oI,oD,toD]
theorem toD_oP(G:Gp)(n:Nat)(o:Option (Int×Int)):toD G (n+1) (oP o)=some (oPD o):=by cases o<;>simp[oP,oPD,toD,zd8]
theorem toD_letT(G:Gp)(n:Nat)(x:M.Let):toD G (n+2) (zbB x)=some (letD x):=by
 cases x with
 | promise b v l=>simp[zbB,letD,toD,zd8,ok2,toD_oP]
 | _=>simp[zbB,letD,toD,zd8,ok1,zhz,ok4]
theorem zfn{f:T->Option PyData}{α:Type}{g:α->T}{k:α->PyData}(h:∀ x,f (g x)=some (k x)):∀ (l:List α),zd8 f (l.map g)=some (l.map k)
 | []=>rfl
 | x::r=>by simp only[List.map_cons,zd8,h,zfn h r]
theorem toD_lst{G:Gp}{a:Addr}{α:Type}{g:α->T}{k:α->PyData}{l:List α}(n:Nat)(h:G a=some (.lst (l.map g)))(hk:∀ x,toD G n (g x)=some (k x)):toD G (n+1) (.ref a)=some (.list (l.map k)):=by
 simp only[toD,h]
 rw[zfn (g:=g) (k:=k) hk l]
 rfl
theorem ne_same{G:Gp}{x y:T}{d:PyData}{Q:VK3}(h1:toD G 20 x=some d)(h2:toD G 20 y=some d)(q:Q (.bl false) G):wD (λa b=>!PyData.eqv a b) x y G Q:=by
 simp only[wD,h1,h2]
 rw[zjk 20 x d h1]
 exact q
noncomputable def zfd(x:M.Let)(v:Nat)(V:M.Voter):Option (M.Let×M.Voter):=match x with
 | .prepare b=>if M.lt? V.promised b then some (.promise b v V.voted,⟨some b,V.voted⟩)else none
 | .ask b w=>if M.le? V.promised b then some (.vote b v w,⟨some b,some (b,w)⟩)else none
 | _=>none
def forV:M.Let->Prop
 | .prepare _=>True
 | .ask _ _=>True
 | _=>False
theorem zh8{S:P.R}{x:M.Let}{v:Nat}(h:forV x):S.hear x v=match zfd x v (S.voters v)with
  | some (y,V')=>(S.setV v V').write y
  | none=>S:=by
 cases x with
 | prepare b=>simp only[P.R.hear,zfd]; split<;>simp_all
 | ask b w=>simp only[P.R.hear,zfd]; split<;>simp_all
 | promise=>exact h.elim
 | vote=>exact h.elim
structure Fit(S:P.R):Prop where
 n0:0 < S.wishes.length
 ln:S.letters.length<=1000000
 ak:∀ i,(S.askers i).asked.length<=1000000
 nt:∀ i b,(S.askers i).ballot=some b->(S.askers i).noted.length < 60
section
variable {Z:Cz}{G G':Gp}{A A':Adr}{S S':P.R}
theorem RoomAt.setV(R:RoomAt Z G A S){v:Nat}(hv:v < S.many)(V':M.Voter):RoomAt Z (updG G (A (.vs v)) (.ins Z.V (fV (.int v) (oI V'.promised) (oP V'.voted)))) A (S.setV v V') /\
  Fr G A S (updG G (A (.vs v)) (.ins Z.V (fV (.int v) (oI V'.promised) (oP V'.voted)))) A (S.setV v V'):=by
 have e:obj Z (S.setV v V') A (.vs v)=.ins Z.V (fV (.int v) (oI V'.promised) (oP V'.voted)):=by simp[obj,P.R.setV,M.upd]
 rw[<- e]
 refine⟨R.put (s:=.vs v) hv (λt=>Iff.rfl) λt ht hn=>?_,Fr.put (s:=.vs v) hv λt=>Iff.rfl⟩
 cases t with
 | vs j =>
  have hj:j≠v:=λz=>hn (by rw[z])
  simp[obj,P.R.setV,M.upd,hj]
 | _=>rfl
theorem RoomAt.noted(R:RoomAt Z G A S){i:Nat}(hi:i < S.wishes.length)(l:List (Nat×Option (Int×Int))):RoomAt Z (updG G (A (.nt i)) (zd4 l)) A (S.setA i { S.askers i with noted:=l }) /\
  Fr G A S (updG G (A (.nt i)) (zd4 l)) A (S.setA i { S.askers i with noted:=l }):=by
 have e:obj Z (S.setA i { S.askers i with noted:=l }) A (.nt i)=zd4 l:=by simp[obj,P.R.setA,M.upd]
 rw[<- e]
 refine⟨R.put (s:=.nt i) hi (λt=>Iff.rfl) λt ht hn=>?_,Fr.put (s:=.nt i) hi λt=>Iff.rfl⟩
 cases t with
 | nt j =>
  have hj:j≠i:=λz=>hn (by rw[z])
  simp[obj,P.R.setA,M.upd,hj]
 | as j=>by_cases hj:j=i<;>simp[obj,P.R.setA,M.upd,hj]
 | ak j=>by_cases hj:j=i<;>simp[obj,P.R.setA,M.upd,hj]
 | _=>rfl
theorem RoomAt.asked(R:RoomAt Z G A S){i:Nat}(hi:i < S.wishes.length)(l:List (Int×List Nat)):RoomAt Z (updG G (A (.ak i)) (akO l)) A (S.setA i { S.askers i with asked:=l }) /\
  Fr G A S (updG G (A (.ak i)) (akO l)) A (S.setA i { S.askers i with asked:=l }):=by
 have e:obj Z (S.setA i { S.askers i with asked:=l }) A (.ak i)=akO l:=by simp[obj,P.R.setA,M.upd]
 rw[<- e]
 refine⟨R.put (s:=.ak i) hi (λt=>Iff.rfl) λt ht hn=>?_,Fr.put (s:=.ak i) hi λt=>Iff.rfl⟩
 cases t with
 | ak j =>
  have hj:j≠i:=λz=>hn (by rw[z])
  simp[obj,P.R.setA,M.upd,hj]
 | as j=>by_cases hj:j=i<;>simp[obj,P.R.setA,M.upd,hj]
 | nt j=>by_cases hj:j=i<;>simp[obj,P.R.setA,M.upd,hj]
 | _=>rfl
end
theorem setA_setA{S:P.R}{i:Nat}{a b:P.As}:(S.setA i a).setA i b=S.setA i b:=by
 simp only[P.R.setA]
 congr 1
 funext j; unfold M.upd; split<;>rfl
theorem setA_at{S:P.R}{i:Nat}{a:P.As}:(S.setA i a).askers i=a:=by simp[P.R.setA,M.upd]
theorem ziR{κ κ' α:Type} [DecidableEq κ] [DecidableEq κ']{f:κ->κ'}(inj:∀ a b,f a=f b->a=b){g:α->T}(l:List (κ×α))(k:κ)(x:α) :
  zeK (l.map λp=>(f p.1,g p.2)) (f k) (g x)=(P.putL l k x).map λp=>(f p.1,g p.2):=by
 unfold zeK P.putL
 have e1:((l.map λp=>(f p.1,g p.2)).any λkv=>decide (kv.1=f k))=l.any λkv=>decide (kv.1=k):=by
  rw[List.any_map]
  congr 1
  funext p
  exact decide_eq_decide.mpr ⟨λh=>inj _ _ h,λh=>congrArg f h⟩
 rw[e1]
 split
 ·rw[List.map_map,List.map_map]
  refine List.map_congr_left λp _=>?_
  simp only[Function.comp]
  by_cases c:p.1=k
  ·rw[if_pos c,if_pos (by rw[c])]
  ·rw[if_neg c,if_neg (λh=>c (inj _ _ h))]
 ·simp
theorem ziT{κ κ' α:Type} [DecidableEq κ] [DecidableEq κ']{f:κ->κ'}(inj:∀ a b,f a=f b->a=b){g:α->T}(l:List (κ×α))(k:κ) :
  zdC (l.map λp=>(f p.1,g p.2)) (f k)=(P.getL l k).map g:=by
 unfold zdC P.getL
 rw[List.find?_map]
 have e1:((λkv:κ'×T=>decide (kv.1=f k))∘λp:κ×α=>(f p.1,g p.2))=λkv=>decide (kv.1=k):=by
  funext p
  exact decide_eq_decide.mpr ⟨λh=>inj _ _ h,λh=>congrArg f h⟩
 rw[e1]
 cases l.find? λkv=>decide (kv.1=k)<;>rfl
theorem inlN(a b:Nat)(h:(Sum.inl (a:Int):Key)=Sum.inl (b:Int)):a=b:=by injection h with h; lia
theorem inlI(a b:Int)(h:(Sum.inl a:Key)=Sum.inl b):a=b:=by injection h
noncomputable abbrev vsT(vs:List Nat):T:=T.tup (vs.map λ(v:Nat)=>T.int v)
theorem not_put(l:List (Nat×Option (Int×Int)))(v:Nat)(x:Option (Int×Int)):GO.dK (zeK (l.map λp=>(Sum.inl (p.1:Int),oP p.2)) (Sum.inl (v:Int)) (oP x))=zd4 (P.putL l v x):=by
 unfold zd4; rw[ziR (f:=λ(n:Nat)=>(Sum.inl (n:Int):Key)) inlN (g:=oP)]
theorem ak_put(l:List (Int×List Nat))(b:Int)(x:List Nat):GO.dK (zeK (l.map λp=>(Sum.inl p.1,T.tup (p.2.map λ(v:Nat)=>T.int v))) (Sum.inl b) (vsT x))=akO (P.putL l b x):=by
 unfold akO; rw[ziR (f:=λ(n:Int)=>(Sum.inl n:Key)) inlI (g:=vsT)]
section
variable {G:Gp}{q:Addr}
theorem ak_get{l:List (Int×List Nat)}(h:G q=some (akO l))(b:Int):zc7 (.ref q) (.int b) G=some ((P.getL l b).map vsT):=by
 simp only[zc7,h,akO,zi8,zhm]
 rw[ziT (f:=λ(n:Int)=>(Sum.inl n:Key)) inlI (g:=vsT)]
theorem ak_in{l:List (Int×List Nat)}(h:G q=some (akO l))(x:T):zh7 x (.ref q) G=none:=by
 have:zaF (.ref q) G=none:=by simp[zaF,h,akO]
 simp[zh7,this]
theorem not_set{l:List (Nat×Option (Int×Int))}{v:Nat}{x:Option (Int×Int)}{Q:Gp->Prop}(h:G q=some (zd4 l))(hl:l.length<=1000000)(k:Q (updG G q (zd4 (P.putL l v x)))):set3 (.ref q) (.int v) (oP x) G Q:=by
 simp only[set3,h,zd4,zhm]
 refine⟨by simpa using hl,?_⟩
 have e:=not_put l v x
 unfold zd4 at e k
 rw[e]; exact k
theorem ak_set{l:List (Int×List Nat)}{b:Int}{x:List Nat}{Q:Gp->Prop}(h:G q=some (akO l))(hl:l.length<=1000000)(k:Q (updG G q (akO (P.putL l b x)))):set3 (.ref q) (.int b) (vsT x) G Q:=by
 simp only[set3,h,akO,zhm]
 refine⟨by simpa using hl,?_⟩
 have e:=ak_put l b x
 unfold akO at e k
 rw[e]; exact k
end
theorem zia(x y:Str):PyData.eqv (.str x) (.str y)=decide (x=y):=by rw[show PyData.eqv (.str x) (.str y)=(x==y)from rfl]; exact Bool.beq_eq_decide_eq x y
theorem eqvN(i:Int):PyData.eqv (.int i) .none=false:=rfl
theorem eqv_oD(b:Int)(o:Option Int):PyData.eqv (.int b) (oD o)=decide (o=some b):=by
 cases o with
 | none=>simp[oD,eqvN]
 | some i =>
  rw[oD,eqvI]
  exact decide_eq_decide.mpr ⟨λh=>by rw[h],λh=>by injection h with h; exact h.symm⟩
theorem sortI_N(l:List Nat):zf4 (l.map λ(v:Nat)=>(v:Int))=(P.sortN l).map λ(v:Nat)=>(v:Int):=by
 refine (zjm ?_ ?_).symm
 ·exact(List.mergeSort_perm _ _).map _
 ·rw[List.pairwise_map]
  have:=List.pairwise_mergeSort (le:=λa b:Nat=>decide (a<=b)) (λa b c=>by simp; lia) (λa b=>by simp; lia) l
  exact this.imp λh=>by have:=of_decide_eq_true h; lia
theorem not_keys(l:List (Nat×Option (Int×Int))):ze3 ((l.map λp=>((Sum.inl (p.1:Int):Key),oP p.2)).map λkv=>kT kv.1)=some ((l.map (·.1)).map λ(v:Nat)=>(v:Int)):=by
 have:((l.map λp=>((Sum.inl (p.1:Int):Key),oP p.2)).map λkv=>kT kv.1)=((l.map (·.1)).map λ(v:Nat)=>(v:Int)).map T.int:=by
  rw[List.map_map,List.map_map,List.map_map]; rfl
 rw[this,zgA]
theorem lasts_T(l:List (Nat×Option (Int×Int))):((l.map λp=>oP p.2).filter λt=>!isN t)=(P.lasts l).map pT:=by
 induction l with
 | nil=>rfl
 | cons p r ih =>
  obtain⟨v,o⟩:=p
  cases o with
  | none=>simpa [oP,isN,P.lasts] using ih
  | some q=>simpa [oP,isN,P.lasts,pT] using ih
theorem wish_nil{w:Int}{l:List (Nat×Option (Int×Int))}(h:P.lasts l=[]):P.wishToAsk w l=w:=by simp[P.wishToAsk,h]
theorem wish_cons{w:Int}{l:List (Nat×Option (Int×Int))}{x:Int×Int}{r:List (Int×Int)}(h:P.lasts l=x::r):P.wishToAsk w l=(zdx P.ltP x r).2:=by
 simp[P.wishToAsk,h,P.maxP,zdx]
theorem zjv{κ α:Type} [DecidableEq κ](l:List (κ×α))(k:κ)(x:α):(P.putL l k x).length<=l.length+1:=by
 unfold P.putL; split<;>simp
end Rm
namespace P
open M (Let)
noncomputable def code:Let->Nat×Int×Nat
 | .prepare b=>(0,b,0)
 | .promise b v _=>(1,b,v)
 | .ask b _=>(2,b,0)
 | .vote b v _=>(3,b,v)
noncomputable def prepB:Let->Option Int
 | .prepare b=>some b
 | _=>none
noncomputable def zjb(L:List Let):List Int:=L.filterMap prepB
theorem zjA{L:List Let}{b:Int}:b∈zjb L↔.prepare b∈L:=by
 unfold zjb
 rw[List.mem_filterMap]
 constructor
 ·rintro⟨x,h,e⟩
  cases x<;>simp[prepB]at e
  subst e; exact h
 ·intro h; exact⟨_,h,rfl⟩
theorem code_nodup{D:M.St}(I:M.Inv D):(D.letters.map code).Nodup:=by
 unfold List.Nodup
 rw[List.pairwise_map]
 refine List.Pairwise.imp_of_mem ?_ I.nodup
 intro x y hx hy ne e
 apply ne
 cases x<;>cases y<;>simp[code]at e
 ·rw[e]
 ·obtain⟨rfl,rfl⟩:=e
  rw[I.promU _ _ _ _ hx hy]
 ·subst e
  rw[I.askU _ _ _ hx hy]
 ·obtain⟨rfl,rfl⟩:=e
  rw[I.askU _ _ _ (I.vot _ _ _ hx).2.1 (I.vot _ _ _ hy).2.1]
noncomputable def codes(m:Nat)(bs:List Int):List (Nat×Int×Nat):=bs.flatMap λb=>(0,b,0)::(2,b,0)::((List.range m).map (λv=>(1,b,v))++(List.range m).map λv=>(3,b,v))
theorem codes_len(m:Nat)(bs:List Int):(codes m bs).length=bs.length * (2+2 * m):=by
 induction bs with
 | nil=>simp[codes]
 | cons b r ih =>
  unfold codes at ih ⊢
  rw[List.flatMap_cons,List.length_append,ih]
  simp[Nat.add_mul]
  lia
theorem code_mem{D:M.St}(I:M.Inv D){x:Let}(h:x∈D.letters):code x∈codes D.many (zjb D.letters):=by
 have key:∀ b,.prepare b∈D.letters->∀ c,c∈((0,b,0)::(2,b,0)::((List.range D.many).map (λv=>(1,b,v))++(List.range D.many).map λv=>(3,b,v)):List (Nat×Int×Nat))->c∈codes D.many (zjb D.letters) :=
  λb hb c hc=>List.mem_flatMap.mpr ⟨b,zjA.mpr hb,hc⟩
 cases x with
 | prepare b=>exact key b h _ (by simp[code])
 | promise b v l=>have:=I.prom b v l h; exact key b this.2.1 _ (by simp[code,this.1])
 | ask b w=>exact key b (I.askP b w h).1 _ (by simp[code])
 | vote b v w=>have:=I.vot b v w h; exact key b (I.askP b w this.2.1).1 _ (by simp[code,this.1])
theorem letters_le{D:M.St}(I:M.Inv D):D.letters.length<=(zjb D.letters).length * (2+2 * D.many):=by
 rw[<- codes_len]
 have:=M.length_of_nodup (code_nodup I) (r:=codes D.many (zjb D.letters)) λc hc=>by
  obtain⟨x,hx,rfl⟩:=List.mem_map.mp hc
  exact code_mem I hx
 simpa using this
def Nd(S:R):Prop:=∀ i,((S.askers i).asked.map (·.1)).Nodup
structure Ok(n:Nat)(S:R):Prop where
 good:zjf S
 nd:Nd S
 m:S.many<=7
 pr:(zjb S.letters).length<=n
theorem Ok.new{wishes:List Int}{many:Nat}(h:0 < wishes.length)(hm:many<=7):Ok 0 (new wishes many):=⟨zjf.new h,λi=>by simp[P.new],hm,by simp[P.new,zjb]⟩
theorem Ok.mono{n m:Nat}{S:R}(h:Ok n S)(hm:n<=m):Ok m S:=⟨h.good,h.nd,h.m,Nat.le_trans h.pr hm⟩
theorem Ok.ln{n:Nat}{S:R}(h:Ok n S):S.letters.length<=n * 16:=by
 obtain⟨D,s,I⟩:=h.good
 have h1:=letters_le I
 rw[<- s.l,<- s.m]at h1
 have h2:=h.m
 have h3:=h.pr
 calc S.letters.length<=(zjb S.letters).length * (2+2 * S.many):=h1
  _<=n * 16:=Nat.mul_le_mul h3 (by lia)
theorem Ok.ak{n:Nat}{S:R}(h:Ok n S)(i:Nat):(S.askers i).asked.length<=n * 16:=by
 refine Nat.le_trans ?_ h.ln
 obtain⟨D,s,I⟩:=h.good
 have nd:=h.nd i
 have h1:(((S.askers i).asked.map (·.1)).map λb=>((2,b,0):Nat×Int×Nat)).Nodup:=by
  unfold List.Nodup at nd ⊢
  rw[List.pairwise_map]
  exact nd.imp λh e=>h (by injection e with _ e; injection e)
 have:=M.length_of_nodup h1 (r:=D.letters.map code) λc hc=>by
  obtain⟨b,hb,rfl⟩:=List.mem_map.mp hc
  have hg:getL (S.askers i).asked b≠none:=λz=>zer.mp z hb
  rw[s.ak]at hg
  have hb2:∃ vs,D.backers b=some vs:=by
   by_cases c:M.own S.wishes.length b=i
   ·rw[if_pos c]at hg
    exact Option.ne_none_iff_exists'.mp hg
   ·rw[if_neg c]at hg; exact absurd rfl hg
  obtain⟨vs,hvs⟩:=hb2
  obtain⟨⟨w,hw⟩,_⟩:=I.back b vs hvs
  exact List.mem_map.mpr ⟨_,hw,rfl⟩
 rw[s.l]
 simpa using this
theorem Ok.nt{n:Nat}{S:R}(h:Ok n S){i:Nat}{b:Int}(hb:(S.askers i).ballot=some b):(S.askers i).noted.length<=7:=by
 obtain⟨D,s,I⟩:=h.good
 rw[s.bl]at hb
 rw[s.nt]
 have h1:=M.length_of_nodup (I.notedU i) (r:=List.range D.many) λv hv=>by
  obtain⟨⟨v',x⟩,hx,e⟩:=List.mem_map.mp hv
  simp only at e; subst e
  have:=(I.prom b _ _ (I.noted i b _ _ hb hx)).1
  simpa using this
 have h2:=h.m
 rw[s.m]at h2
 simp at h1
 lia
theorem zdV{L:List Let}{x:Let}:(zjb (M.write L x)).length<=(zjb L).length+(if (prepB x).isSome then 1 else 0):=by
 unfold M.write
 split
 ·lia
 ·unfold zjb
  rw[List.filterMap_append,List.length_append]
  cases x<;>simp[prepB,List.filterMap]
structure Grow(S S':R):Prop where
 w:S'.wishes=S.wishes
 m:S'.many=S.many
 l:S.letters <+: S'.letters
theorem Grow.refl(S:R):Grow S S:=⟨rfl,rfl,List.prefix_refl _⟩
theorem Grow.trans{S S' S'':R}(a:Grow S S')(b:Grow S' S''):Grow S S'':=⟨b.w.trans a.w,b.m.trans a.m,a.l.trans b.l⟩
theorem zej(L:List Let)(x:Let):L <+: M.write L x:=by
 unfold M.write; split
 ·exact List.prefix_refl _
 ·exact List.prefix_append _ _
theorem Grow.begin(S:R)(i:Nat)(l:Int):Grow S (S.begin i l):=⟨rfl,rfl,zej _ _⟩
theorem Grow.fall(S:R)(i:Nat):Grow S (S.fall i):=⟨rfl,rfl,List.prefix_refl _⟩
theorem Grow.note(S:R)(b:Int)(v:Nat)(l:Option (Int×Int)):Grow S (S.note b v l):=by
 unfold R.note
 simp only
 split
 ·split
  ·exact⟨rfl,rfl,zej _ _⟩
  ·exact⟨rfl,rfl,List.prefix_refl _⟩
 ·exact Grow.refl S
theorem Grow.hear(S:R)(x:Let)(v:Nat):Grow S (S.hear x v):=by
 cases x with
 | promise b u l=>exact Grow.note S b u l
 | vote b u w=>exact Grow.refl S
 | prepare b =>
  simp only[R.hear]; split
  ·exact⟨rfl,rfl,zej _ _⟩
  ·exact Grow.refl S
 | ask b w =>
  simp only[R.hear]; split
  ·exact⟨rfl,rfl,zej _ _⟩
  ·exact Grow.refl S
theorem Grow.bring(S:R)(k v:Nat):Grow S (S.bring k v):=by
 unfold R.bring; split
 ·exact Grow.hear S _ v
 ·exact Grow.refl S
theorem Nd.note{S:R}(h:Nd S)(b:Int)(v:Nat)(l:Option (Int×Int)):Nd (S.note b v l):=by
 unfold R.note
 simp only
 split
 ·rename_i c
  have hb:=zer.mp c.2
  split
  ·intro i
   simp only[R.setA,R.write,M.upd]
   split
   ·rename_i e; subst e
    simp only
    rw[zfk hb,List.map_append]
    have nd:=h (M.own S.wishes.length b)
    exact List.nodup_append.mpr ⟨nd,by simp,λx hx y hy=>by
     have:y=b:=by simpa using hy
     subst this
     intro e; subst e; exact hb hx⟩
   ·exact h i
  ·intro i
   simp only[R.setA,M.upd]
   split
   ·rename_i e; subst e; exact h _
   ·exact h i
 ·exact h
theorem Nd.hear{S:R}(h:Nd S)(x:Let)(v:Nat):Nd (S.hear x v):=by
 cases x with
 | promise b u l=>exact h.note b u l
 | vote b u w=>exact h
 | prepare b=>simp only[R.hear]; split<;>exact h
 | ask b w=>simp only[R.hear]; split<;>exact h
theorem bals_hear(S:R)(x:Let)(v:Nat):(zjb (S.hear x v).letters).length<=(zjb S.letters).length:=by
 cases x with
 | promise b u l =>
  simp only[R.hear,R.note]
  split
  ·split
   ·exact zdV
   ·exact nLr _
  ·exact nLr _
 | vote b u w=>exact nLr _
 | prepare b =>
  simp only[R.hear]; split
  ·exact zdV
  ·exact nLr _
 | ask b w =>
  simp only[R.hear]; split
  ·exact zdV
  ·exact nLr _
theorem Ok.bring{n:Nat}{S:R}(h:Ok n S)(k:Nat){v:Nat}(hv:v < S.many):Ok n (S.bring k v):=by
 refine⟨h.good.bring k hv,?_,?_,?_⟩
 ·unfold R.bring; split
  ·exact h.nd.hear _ v
  ·exact h.nd
 ·rw[(Grow.bring S k v).m]; exact h.m
 ·unfold R.bring; split
  ·exact Nat.le_trans (bals_hear S _ v) h.pr
  ·exact h.pr
theorem Ok.begin{n:Nat}{S:R}(h:Ok n S){i:Nat}{l:Int}(hi:i < S.wishes.length)(hl:0<=l):Ok (n+1) (S.begin i l):=by
 refine⟨h.good.begin hi hl,λj=>?_,h.m,?_⟩
 ·simp only[R.begin,R.setA,R.write,M.upd]
  split
  ·rename_i e; subst e; exact h.nd _
  ·exact h.nd j
 ·exact Nat.le_trans zdV (Nat.succ_le_succ h.pr)
theorem Ok.fall{n:Nat}{S:R}(h:Ok n S)(i:Nat):Ok n (S.fall i):=by
 refine⟨h.good.fall i,λj=>?_,h.m,h.pr⟩
 simp only[R.fall,R.setA,M.upd]
 split
 ·rename_i e; subst e; exact h.nd _
 ·exact h.nd j
noncomputable def zbd(b w:Int):Let->Option Nat
 | .vote b' v w'=>if b'=b/\w'=w then some v else none
 | _=>none
noncomputable def voted(L:List Let)(b w:Int):List Nat:=L.filterMap (zbd b w)
theorem zh0{L:List Let}{b w:Int}{v:Nat}:v∈voted L b w↔.vote b v w∈L:=by
 unfold voted
 rw[List.mem_filterMap]
 constructor
 ·rintro⟨x,h,e⟩
  cases x<;>simp[zbd]at e
  obtain⟨⟨rfl,rfl⟩,rfl⟩:=e; exact h
 ·intro h; exact⟨_,h,by simp[zbd]⟩
theorem zcr{α β:Type}{f:α->Option β}(inj:∀ a b c,f a=some c->f b=some c->a=b):∀ {l:List α},l.Nodup->(l.filterMap f).Nodup
 | [],_=>by simp
 | a::r,h=>by
  rw[List.nodup_cons]at h
  rw[List.filterMap_cons]
  split
  ·exact zcr inj h.2
  ·rename_i c e
   rw[List.nodup_cons]
   refine⟨λhm=>?_,zcr inj h.2⟩
   obtain⟨b,hb,e2⟩:=List.mem_filterMap.mp hm
   exact h.1 (inj a b c e e2 ▸ hb)
theorem ziB{L:List Let}(h:L.Nodup)(b w:Int):(voted L b w).Nodup:=by
 refine zcr (λx y c hx hy=>?_) h
 cases x<;>simp[zbd]at hx
 cases y<;>simp[zbd]at hy
 obtain⟨⟨rfl,rfl⟩,rfl⟩:=hx
 obtain⟨⟨rfl,rfl⟩,rfl⟩:=hy
 rfl
theorem voted_len{D:M.St}(I:M.Inv D)(b w:Int):(voted D.letters b w).length=(M.Vs D b w).length:=by
 have h1:=M.length_of_nodup (ziB I.nodup b w) (r:=M.Vs D b w) λv hv=>by
  have:=zh0.mp hv
  exact M.mem_Vs.mpr ⟨(I.vot b v w this).1,this⟩
 have h2:=M.length_of_nodup (M.sorted_nodup (M.Vs_sorted D b w)) (r:=voted D.letters b w) λv hv=>zh0.mpr (M.mem_Vs.mp hv).2
 lia
def Chosen(S:R)(b w:Int):Prop:=S.many < 2 * (voted S.letters b w).length
theorem chosen_iff{S:R}{D:M.St}(s:Sim S D)(I:M.Inv D){b w:Int}:Chosen S b w↔M.Chosen D b w:=by
 unfold Chosen M.Chosen
 rw[s.l,voted_len I,s.m]
noncomputable def tally(l:List ((Int×Int)×Int)):Let->List ((Int×Int)×Int)
 | .vote b _ w=>putL l (b,w) ((getL l (b,w)).getD 0+1)
 | _=>l
noncomputable def counts(L:List Let):List ((Int×Int)×Int):=L.foldl tally []
theorem ziS{κ α:Type} [DecidableEq κ](l:List (κ×α))(k:κ)(x:α):(l.map (λkv=>if kv.1=k then (kv.1,x)else kv)).map (·.1)=l.map (·.1):=by
 rw[List.map_map]
 refine List.map_congr_left λp _=>?_
 simp only[Function.comp]; split<;>rfl
theorem putL_nodup{κ α:Type} [DecidableEq κ]{l:List (κ×α)}{k:κ}{x:α}(h:(l.map (·.1)).Nodup):((putL l k x).map (·.1)).Nodup:=by
 unfold putL
 split
 ·rw[ziS]; exact h
 ·rename_i c
  rw[List.map_append]
  refine List.nodup_append.mpr ⟨h,by simp,λa ha b hb e=>c ?_⟩
  have:b=k:=by simpa using hb
  subst this; subst e
  obtain⟨p,hp,e⟩:=List.mem_map.mp ha
  simp only[List.any_eq_true,decide_eq_true_eq]
  exact⟨p,hp,e⟩
theorem getL_put{κ α:Type} [DecidableEq κ]{l:List (κ×α)}{k j:κ}{x:α}:getL (putL l k x) j=if j=k then some x else getL l j:=by
 by_cases c:(l.any λkv=>decide (kv.1=k))=true
 ·unfold putL
  rw[if_pos c]
  revert c
  induction l with
  | nil=>intro hc; simp at hc
  | cons p r ih =>
   intro hc
   unfold getL at ih ⊢
   rw[List.map_cons,List.find?_cons,List.find?_cons]
   by_cases e:p.1=k
   ·rw[if_pos e]
    simp only
    by_cases e2:j=k
    ·subst e2; simp[e]
    ·have e3:¬ p.1=j:=λz=>e2 (z.symm.trans e)
     simp only[e3,decide_false,e2,if_false]
     by_cases hr:(r.any λkv=>decide (kv.1=k))=true
     ·have:=ih hr
      rw[if_neg e2]at this
      exact this
     ·have:r.map (λkv=>if kv.1=k then (kv.1,x)else kv)=r:=ziQ (λz=>hr (by
       obtain⟨p,hp,e⟩:=List.mem_map.mp z
       simp only[List.any_eq_true,decide_eq_true_eq]
       exact⟨p,hp,e⟩))
      rw[this]
   ·rw[if_neg e]
    have hr:(r.any λkv=>decide (kv.1=k))=true:=by simpa [e] using hc
    by_cases e2:p.1=j
    ·have e3:¬ j=k:=λz=>e (e2.trans z)
     simp[e2,e3]
    ·simp only[e2,decide_false]
     exact ih hr
 ·have hk:k∉l.map (·.1):=λz=>c (by
   obtain⟨p,hp,e⟩:=List.mem_map.mp z
   simp only[List.any_eq_true,decide_eq_true_eq]
   exact⟨p,hp,e⟩)
  rw[zfk hk,zhp hk]
theorem zcm:∀ (L:List Let) (l:List ((Int×Int)×Int)) (c:Int×Int->Nat),(l.map (·.1)).Nodup->(∀ q,getL l q=if c q=0 then none else some (c q:Int)) ->
  ((L.foldl tally l).map (·.1)).Nodup/\∀ q,getL (L.foldl tally l) q=if c q+(voted L q.1 q.2).length=0 then none else some ((c q+(voted L q.1 q.2).length:Nat):Int)
 | [],l,c,nd,h=>⟨nd,λq=>by rw[List.foldl_nil,h q]; by_cases z:c q=0<;>simp[voted,z]⟩
 | x::r,l,c,nd,h=>by
  rw[List.foldl_cons]
  have nov:∀ b w,zbd b w x=none->voted (x::r) b w=voted r b w:=λb w e=>by simp[voted,e]
  have yes:∀ b w v,zbd b w x=some v->(voted (x::r) b w).length=(voted r b w).length+1:=λb w v e=>by simp[voted,e]
  cases x with
  | vote b v w =>
   have ih:=zcm r (tally l (.vote b v w)) (λq=>if q=(b,w)then c q+1 else c q) (putL_nodup nd) λq=>by
    simp only[tally]
    rw[getL_put]
    by_cases e:q=(b,w)
    ·subst e
     simp only[if_true]
     rw[h]
     split
     ·rename_i z; simp[z]
     ·simp
    ·rw[if_neg e,if_neg e]; exact h q
   refine⟨ih.1,λq=>?_⟩
   rw[ih.2 q]
   by_cases e:q=(b,w)
   ·subst e
    rw[yes b w v (by simp[zbd])]
    simp only[if_true]
    have:c (b,w)+1+(voted r b w).length=c (b,w)+((voted r b w).length+1):=by lia
    rw[this]
   ·rw[nov q.1 q.2 (by
     simp only[zbd]
     rw[if_neg]
     rintro⟨h1,h2⟩
     exact e (by rw[h1,h2]))]
    rw[if_neg e]
  | prepare b =>
   have ih:=zcm r l c nd h
   refine⟨ih.1,λq=>?_⟩
   rw[nov q.1 q.2 rfl]; exact ih.2 q
  | promise b v l' =>
   have ih:=zcm r l c nd h
   refine⟨ih.1,λq=>?_⟩
   rw[nov q.1 q.2 rfl]; exact ih.2 q
  | ask b w =>
   have ih:=zcm r l c nd h
   refine⟨ih.1,λq=>?_⟩
   rw[nov q.1 q.2 rfl]; exact ih.2 q
theorem counts_nodup(L:List Let):((counts L).map (·.1)).Nodup:=(zcm L [] (λ_=>0) (by simp) (by simp[getL])).1
theorem zgF(L:List Let)(q:Int×Int):getL (counts L) q=if (voted L q.1 q.2).length=0 then none else some ((voted L q.1 q.2).length:Int):=by
 have:=(zcm L [] (λ_=>0) (by simp) (by simp[getL])).2 q
 simpa [counts] using this
theorem getL_mem{κ α:Type} [DecidableEq κ]:∀ {l:List (κ×α)} {k:κ} {x:α},(l.map (·.1)).Nodup->(k,x)∈l->getL l k=some x
 | (j,y)::r,k,x,nd,h=>by
  simp only[List.map_cons,List.nodup_cons]at nd
  unfold getL
  rw[List.find?_cons]
  rcases List.mem_cons.mp h with e | e
  ·cases e; simp
  ·have:¬ j=k:=λz=>nd.1 (z ▸ List.mem_map_of_mem e)
   simp only[this,decide_false]
   exact getL_mem nd.2 e
noncomputable def won(L:List Let)(m:Nat):List (Int×Int):=((counts L).filter λp=>decide ((m:Int) < 2 * p.2)).map (·.1)
theorem won_nodup(L:List Let)(m:Nat):(won L m).Nodup:=by
 unfold won
 have h:=counts_nodup L
 exact h.sublist (List.filter_sublist.map _)
theorem mem_won{S:R}{q:Int×Int}:q∈won S.letters S.many↔Chosen S q.1 q.2:=by
 unfold won Chosen
 constructor
 ·intro h
  obtain⟨p,hp,rfl⟩:=List.mem_map.mp h
  obtain⟨h1,h2⟩:=List.mem_filter.mp hp
  have:=getL_mem (counts_nodup _) (show(p.1,p.2)∈counts S.letters from h1)
  rw[zgF]at this
  split at this
  ·cases this
  ·simp only[Option.some.injEq]at this
   simp only[decide_eq_true_eq]at h2
   lia
 ·intro h
  have h1:=zgF S.letters q
  rw[if_neg (by lia)]at h1
  unfold getL at h1
  rw[Option.map_eq_some_iff]at h1
  obtain⟨p,hp,e⟩:=h1
  have hk:=List.find?_some hp
  simp only[decide_eq_true_eq]at hk
  refine List.mem_map.mpr ⟨p,List.mem_filter.mpr ⟨List.mem_of_find?_eq_some hp,?_⟩,hk⟩
  rw[e]
  simp only[decide_eq_true_eq]
  lia
theorem won_few{n:Nat}{S:R}(h:Ok n S):(won S.letters S.many).length<=n:=by
 refine Nat.le_trans ?_ h.pr
 obtain⟨D,s,I⟩:=h.good
 have hk:∀ q,q∈won S.letters S.many->.ask q.1 q.2∈D.letters:=λq hq=>M.Chosen.ask I ((chosen_iff s I).mp (mem_won.mp hq))
 have h1:((won S.letters S.many).map (·.1)).Nodup:=by
  unfold List.Nodup
  rw[List.pairwise_map]
  refine List.Pairwise.imp_of_mem ?_ (won_nodup S.letters S.many)
  intro x y hx hy ne e
  refine ne (Prod.ext e ?_)
  exact I.askU x.1 _ _ (hk x hx) (by rw[e]; exact hk y hy)
 have:=M.length_of_nodup h1 (r:=zjb S.letters) λb hb=>by
  obtain⟨q,hq,rfl⟩:=List.mem_map.mp hb
  rw[s.l]
  exact zjA.mpr (I.askP _ _ (hk q hq)).1
 simpa using this
noncomputable def renL(f:Nat->Nat):Let->Let
 | .promise b v l=>.promise b (f v) l
 | .vote b v w=>.vote b (f v) w
 | x=>x
structure Ren(f:Nat->Nat)(S T:R):Prop where
 w:T.wishes=S.wishes
 m:T.many=S.many
 l:T.letters=S.letters.map (renL f)
 bl:∀ i,(T.askers i).ballot=(S.askers i).ballot
 fr:∀ i,(T.askers i).fresh=(S.askers i).fresh
 nt:∀ i,(T.askers i).noted=(S.askers i).noted.map λp=>(f p.1,p.2)
 ak:∀ i,(T.askers i).asked=(S.askers i).asked.map λp=>(p.1,sortN (p.2.map f))
 v:∀ v,v < S.many->T.voters (f v)=S.voters v
section
variable {f:Nat->Nat}{S T:R}
end
noncomputable def zho(S:R)(x:Let)(m:Nat):R:=(List.range m).foldl (λS v=>S.hear x v) S
noncomputable def isProm(b:Int):Let->Bool
 | .promise b' _ _=>decide (b'=b)
 | _=>false
noncomputable def isAsk(b:Int):Let->Bool
 | .ask b' _=>decide (b'=b)
 | _=>false
noncomputable def isPrep(b:Int):Let->Bool
 | .prepare b'=>decide (b'=b)
 | _=>false
noncomputable def mxl(x:Int)(r:List Int):Int:=r.foldl (λa c=>if a < c then c else a) x
noncomputable def beyond:List Let->Int
 | []=>0
 | x::r=>mxl (x.bal+1) (r.map λy=>y.bal+1)
section
variable {S:R}{b:Int}
noncomputable def promAll(S:R)(b:Int)(l:Nat->Option (Int×Int))(j:Nat):R:=(List.range j).foldl (λS v=>S.note b v (l v)) S
end
noncomputable def calmB(S:R)(i:Nat):Int:=(S.askers i).due i S.wishes.length (beyond S.letters)
noncomputable def R.calm(S:R)(i:Nat):R :=
 let S1:=S.begin i (beyond S.letters)
 let S2:=(S1.letters.filter (isPrep (calmB S i))).foldl (λS x=>zho S x S.many) S1
 let S3:=(S2.letters.filter (isProm (calmB S i))).foldl (λS x=>S.hear x 0) S2
 (S3.letters.filter (isAsk (calmB S i))).foldl (λS x=>zho S x S.many) S3
structure Calm(S:R)(i:Nat)(b w:Int)(S1 S2 S3 S4:R):Prop where
 e1:S1=S.begin i (beyond S.letters)
 e2:S2=zho S1 (.prepare b) S.many
 e3:S3=promAll S2 b (λv=>(S.voters v).voted) S.many
 e4:S4=zho S3 (.ask b w) S.many
 l1:S1.letters=S.letters++[.prepare b]
 l2:S2.letters=S1.letters++(List.range S.many).map λv=>.promise b v (S.voters v).voted
 l3:S3.letters=S2.letters++[.ask b w]
 l4:S4.letters=S3.letters++(List.range S.many).map λv=>.vote b v w
 m1:S1.many=S.many
 m2:S2.many=S.many
 m3:S3.many=S.many
 m4:S4.many=S.many
 w4:S4.wishes=S.wishes
 bl:(S4.askers i).ballot=some b
 vo:∀ v,v < S.many->S4.voters v=⟨some b,some (b,w)⟩
 top:∀ x∈S.letters,x.bal < b
 own:w=wishToAsk (S.wishes.getD i 0) ((List.range (S.many / 2+1)).map λv=>(v,(S.voters v).voted))
 b0:0<=b
section
variable {S S1 S2 S3 S4:R}{i:Nat}{b w:Int}
theorem Calm.voted(C:Calm S i b w S1 S2 S3 S4)(hv:∀ v w',.vote b v w'∉S.letters):P.voted S4.letters b w=List.range S.many:=by
 have h0:S.letters.filterMap (zbd b w)=[]:=by
  rw[List.filterMap_eq_nil_iff]
  intro x hx
  cases x with
  | vote b' v w' =>
   simp only[zbd]
   rw[if_neg]
   rintro⟨rfl,rfl⟩
   exact hv _ _ hx
  | _=>rfl
 unfold P.voted
 rw[C.l4,C.l3,C.l2,C.l1]
 simp only[List.filterMap_append,h0]
 have h1:((List.range S.many).map λv=>Let.promise b v (S.voters v).voted).filterMap (zbd b w)=[]:=by
  rw[List.filterMap_eq_nil_iff]
  intro x hx
  obtain⟨v,_,rfl⟩:=List.mem_map.mp hx
  rfl
 have h2:((List.range S.many).map λv=>Let.vote b v w).filterMap (zbd b w)=List.range S.many:=by
  rw[List.filterMap_map]
  have:(zbd b w∘λv=>Let.vote b v w)=some:=by funext v; simp[zbd]
  rw[this]; simp
 rw[h1,h2]
 simp[List.filterMap,zbd]
end
end P
namespace Rm
open PySem L2 L3
theorem zdm{g:TG3}{tb:TS3}{S:Gp->Prop}{D:Ends3}(J:List T->St3->Gp->Prop)(h0:∀ r τ G,J r τ G->S G)(h1:∀ τ G,J [] τ G->D.nx τ G)
  (h2:∀ (x:T) (r:List T) (τ:St3) (G:Gp) (N:St3->Gp->Prop),(∀ τ' G',J r τ' G'->N τ' G')->J (x::r) τ G->g x τ G λτ' G'=>tb { D with nx:=N,ct:=N,bk:=D.nx } τ' G') :
  ∀ (ts:List T) (τ:St3) (G:Gp),J ts τ G->forL g tb S ts D τ G
 | [],τ,G,j=>⟨h0 _ τ G j,h1 τ G j⟩
 | x::r,τ,G,j=>⟨h0 _ τ G j,h2 x r τ G _ (λτ' G' j'=>zdm J h0 h1 h2 r τ' G' j') j⟩
noncomputable def pK(q:Int×Int):LK:=[.at (.int q.1),.at (.int q.2)]
theorem lkT_pK(q:Int×Int):lkT (pK q)=pT q:=rfl
theorem zfH(q:Int×Int):lkOf (pT q)=some (pK q):=by rw[<- lkT_pK]; exact zjD _
theorem zjH(q:Int×Int):zhm (pT q)=none:=rfl
theorem zfB(q:Int×Int):zhy (pK q)=true:=by simp[pK,zhy,A1.ok,A0.ok]
theorem pK_inj(a b:Int×Int)(h:pK a=pK b):a=b:=by
 simp[pK]at h
 exact Prod.ext h.1 h.2
noncomputable def cO(l:List ((Int×Int)×Int)):GO:=match l with
 | []=>.dK []
 | x::r=>.dT ((x::r).map λp=>(pK p.1,T.int p.2))
theorem cO_ne{l:List ((Int×Int)×Int)}(h:l≠[]):cO l=.dT (l.map λp=>(pK p.1,T.int p.2)):=by
 cases l with
 | nil=>exact absurd rfl h
 | cons _ _=>rfl
theorem putL_ne{κ α:Type} [DecidableEq κ]{l:List (κ×α)}{k:κ}{x:α}:P.putL l k x≠[]:=by
 unfold P.putL
 split
 ·intro z
  rename_i h
  rw[List.map_eq_nil_iff]at z
  rw[z]at h
  simp at h
 ·simp
section
variable {G:Gp}{d:Addr}{l:List ((Int×Int)×Int)}
theorem c_get(h:G d=some (cO l))(q:Int×Int):zc7 (.ref d) (pT q) G=some ((P.getL l q).map T.int):=by
 cases l with
 | nil=>simp[zc7,h,cO,zi8,zjH,zfH,zfB,P.getL]
 | cons y r =>
  simp only[zc7,h,cO,zi7,zfH,zfB,if_true]
  rw[ziT pK_inj (g:=T.int)]
theorem c_set{q:Int×Int}{x:Int}{Q:Gp->Prop}(h:G d=some (cO l))(hl:l.length<=1000000)(k:Q (updG G d (cO (P.putL l q x)))):set3 (.ref d) (pT q) (.int x) G Q:=by
 cases l with
 | nil =>
  simp only[set3,h,cO,zjH,zfH]
  exact⟨zfB q,k⟩
 | cons y r =>
  simp only[set3,h,cO,zfH]
  refine⟨zfB q,by simpa using hl,?_⟩
  rw[ziR pK_inj (g:=T.int)]
  rw[cO_ne putL_ne]at k
  exact k
end
theorem okN{n:Nat}{S:P.R}(h:P.Ok n S)(hn:n<=1000):Fit S :=
 ⟨h.good.n0,by have:=h.ln; lia,λi=>by have:=h.ak i; lia,λi b hb=>by have:=h.nt hb; lia⟩
def kindOf:M.Let->Str
 | .prepare _=>"prepare"
 | .promise _ _ _=>"promise"
 | .ask _ _=>"ask"
 | .vote _ _ _=>"vote"
noncomputable def letTs:M.Let->List T
 | .prepare b=>[.str "prepare",.int b]
 | .promise b v l=>[.str "promise",.int b,.int v,oP l]
 | .ask b w=>[.str "ask",.int b,.int w]
 | .vote b v w=>[.str "vote",.int b,.int v,.int w]
theorem ziV(x:M.Let):zbB x=.tup (letTs x):=by cases x<;>rfl
theorem letTs_0(x:M.Let):(letTs x)[0]?=some (.str (kindOf x)):=by cases x<;>rfl
theorem letTs_1(x:M.Let):(letTs x)[1]?=some (.int x.bal):=by cases x<;>rfl
theorem ok_kind(x:M.Let):PyData.strOk (kindOf x)=true:=by cases x<;>first | exact ok1 | exact ok2 | exact zhz | exact ok4
theorem zgE(L:List M.Let):(P.counts L).length<=L.length:=by
 have key:∀ (L:List M.Let) (l:List ((Int×Int)×Int)),(L.foldl P.tally l).length<=l.length+L.length:=by
  intro L
  induction L with
  | nil=>intro l; simp
  | cons x r ih =>
   intro l
   rw[List.foldl_cons]
   have h1:=ih (P.tally l x)
   have h2:(P.tally l x).length<=l.length+1:=by
    cases x with
    | vote b v w=>exact zjv _ _ _
    | _=>simp[P.tally]
   simp
   lia
 have:=key L []
 simpa [P.counts] using this
theorem c_getF{G:Gp}{d:Addr}{ob:Obj}{l:List ((Int×Int)×Int)}(h:G d=some (.dG ob (l.map λp=>(pK p.1,T.int p.2))))(q:Int×Int):zc7 (.ref d) (pT q) G=some ((P.getL l q).map T.int):=by
 simp only[zc7,h,zi7,zfH,zfB,if_true]
 rw[ziT pK_inj (g:=T.int)]
noncomputable def wonT(L:List M.Let)(m:Nat)(t:T):Bool:=match pairOf t with
 | some q=>decide ((m:Int) < 2 * (P.getL (P.counts L) q).getD 0)
 | none=>false
theorem won_T(L:List M.Let)(m:Nat):(((P.counts L).map λp=>pT p.1).filter (wonT L m))=(P.won L m).map pT:=by
 unfold P.won
 have key:∀ l:List ((Int×Int)×Int),(∀ p∈l,P.getL (P.counts L) p.1=some p.2)->((l.map λp=>pT p.1).filter (wonT L m))=(((l.filter λp=>decide ((m:Int) < 2 * p.2)).map (·.1)).map pT):=by
  intro l
  induction l with
  | nil=>intro _; rfl
  | cons p r ih =>
   intro h
   have h1:=h p List.mem_cons_self
   have e:wonT L m (pT p.1)=decide ((m:Int) < 2 * p.2):=by
    have:pairOf (pT p.1)=some p.1:=rfl
    simp only[wonT,this,h1,Option.getD_some]
   have ih:=ih λx hx=>h x (lMc _ hx)
   rw[List.map_cons,List.filter_cons,List.filter_cons,e]
   split
   ·rw[ih]; rfl
   ·exact ih
 exact key _ λp hp=>P.getL_mem (P.counts_nodup L) hp
theorem onDct_c{G:Gp}{d:Addr}{l:List ((Int×Int)×Int)}{Q:Prop}(h:G d=some (cO l))(q:Q):zbo (.ref d) G Q:=by
 cases l with
 | nil=>simp only[zbo,h,cO]; exact q
 | cons _ _=>simp only[zbo,h,cO]; exact q
theorem ixA_get{G:Gp}{x y v:T}{Q:VK3}(h:zc7 x y G=some (some v))(q:Q v G):ixA x y G Q:=by
 simp only[ixA,h]; exact q
theorem get3_c{G:Gp}{d:Addr}{l:List ((Int×Int)×Int)}{k:Int×Int}{z:Int}{Q:VK3}(h:G d=some (cO l))(q:Q (.int ((P.getL l k).getD z)) G):ziw (.ref d) (pT k) (.int z) G Q:=by
 simp only[ziw,c_get h]
 cases e:P.getL l k<;>rw[e]at q<;>exact q
inductive Ac where
 | begin (i:Nat) (l:Int) | fall (i:Nat) | bring (k v:Nat)
noncomputable def zjW:Ac->T
 | .begin i l=>.tup [.str "begin",.int i,.int l]
 | .fall i=>.tup [.str "fall",.int i]
 | .bring k v=>.tup [.str "bring",.int k,.int v]
noncomputable def Ac.run(S:P.R):Ac->P.R
 | .begin i l=>S.begin i l
 | .fall i=>S.fall i
 | .bring k v=>S.bring k v
def Ac.fits(S:P.R):Ac->Prop
 | .begin i l=>i < S.wishes.length/\0<=l
 | .fall i=>i < S.wishes.length
 | .bring k v=>k < S.letters.length/\v < S.many
noncomputable def Ac.cost:Ac->Nat
 | .begin _ _=>1
 | _=>0
theorem Ac.ok{n:Nat}{S:P.R}{a:Ac}(h:P.Ok n S)(f:a.fits S):P.Ok (n+a.cost) (a.run S):=by
 cases a with
 | begin i l=>exact h.begin f.1 f.2
 | fall i=>exact h.fall i
 | bring k v=>exact h.bring k f.2
theorem Ac.grow(S:P.R)(a:Ac):P.Grow S (a.run S):=by
 cases a with
 | begin i l=>exact P.Grow.begin S i l
 | fall i=>exact P.Grow.fall S i
 | bring k v=>exact P.Grow.bring S k v
structure Hs(Z:Cz)(n:Nat)(dn r:Addr)(G:Gp)(A:Adr)(S:P.R)(k:Nat):Prop where
 R:RoomAt Z G A S
 ok:P.Ok n S
 er:A .r=r
 dl:∃ ds,G dn=some (.lst ds)/\ds.length<=k
 nd:¬ own A S dn
inductive Runs:P.R->List Ac->P.R->Prop
 | nil (S:P.R):Runs S [] S
 | cons {S S':P.R} {a:Ac} {as:List Ac} (f:a.fits S) (r:Runs (a.run S) as S'):Runs S (a::as) S'
structure Mv(dn:Addr)(as:List Ac)(G:Gp)(A:Adr)(S:P.R)(G':Gp)(A':Adr)(S':P.R):Prop where
 ex:Runs S as S'
 dl:∀ ds,G dn=some (.lst ds)->G' dn=some (.lst (ds++as.map zjW))
 fr:∀ a o,a≠dn->¬ own A S a->G a=some o->G' a=some o/\¬ own A' S' a
section
variable {Z:Cz}{n k:Nat}{dn r:Addr}{as bs:List Ac}{G G' G2:Gp}{A A' A2:Adr}{S S' S2:P.R}
end
noncomputable def mix(c p m:Int):Int:=c * 48271 % p % m
theorem zdM(c p m:Int)(h:0 < m):0<=mix c p m/\mix c p m < m:=⟨Int.emod_nonneg _ (by lia),Int.emod_lt_of_pos _ h⟩
theorem okb1:PyData.strOk ("begin":Str)=true:=by decide +kernel
theorem okb2:PyData.strOk ("fall":Str)=true:=by decide +kernel
theorem okb3:PyData.strOk ("bring":Str)=true:=by decide +kernel
theorem sb12:("begin":Str)≠"fall":=by decide
theorem sb13:("begin":Str)≠"bring":=by decide
theorem sb23:("fall":Str)≠"bring":=by decide
section
variable {Z:Cz}{n k:Nat}{dn r:Addr}{G G' G2:Gp}{A A' A2:Adr}{S S' S2:P.R}
end
structure Two(Z:Cz)(G:Gp)(A:Adr)(S:P.R)(B:Adr)(U:P.R):Prop where
 R1:RoomAt Z G A S
 R2:RoomAt Z G B U
 ap:∀ s t,zfI S s->zfI U t->A s≠B t
section
variable {Z:Cz}{G G':Gp}{A A' B B':Adr}{S S' U U':P.R}
end
end Rm
namespace P
end P
namespace Rm
open PySem L2 L3
noncomputable def zcW(ns:List Int):List Int:=(List.range (1+mix (cellI ns 0) 9973 4).toNat).map λ(k:Nat)=>(cellI ns 1+31 * (k:Int)) % 10 ^ 9 - 99 * ((k:Int) % 2)
theorem zhB(ns:List Int):0 < (zcW ns).length/\(zcW ns).length<=4:=by
 have:=zdM (cellI ns 0) 9973 4 (by decide)
 simp[zcW]; lia
noncomputable def manyN(ns:List Int):Nat:=(1+mix (cellI ns 0) 9967 7).toNat
theorem zh1(ns:List Int):1<=manyN ns/\manyN ns<=7:=by
 have:=zdM (cellI ns 0) 9967 7 (by decide)
 unfold manyN; lia
noncomputable abbrev vsN(vs:List Nat):List T:=vs.map λ(v:Nat)=>T.int v
noncomputable def zht(c:Int)(m:Nat):List Nat:=(List.range m).filter λ(k:Nat)=>decide (Builtin.bitAnd (c / 2 ^ k) 1=1)
theorem bitsL_lt{c:Int}{m v:Nat}(h:v∈zht c m):v < m:=List.mem_range.mp (List.mem_filter.mp h).1
noncomputable def zc3(len:Nat)(c:Int):Nat:=len - 1 - (mix c 9929 (min len 9:Nat)).toNat
noncomputable def isPr:M.Let->Bool
 | .promise _ _ _=>true
 | _=>false
noncomputable def zct(L:List M.Let)(c:Int)(n m:Nat):List Ac :=
 if mix c 9949 11 < 2∨L=[]then[.begin (mix c 9941 n).toNat (mix c 9931 25)]
 else if mix c 9949 11=2 then[.fall (mix c 9941 n).toNat]
 else if mix c 9949 11 < 6 then ((List.range' (zc3 L.length c) (L.length - zc3 L.length c)).filter λk=>(L[k]?).any isPr).map λk=>.bring k (c % (m:Int)).toNat
 else (zht (mix c 9923 (2 ^ m)) m).map λv=>.bring (zc3 L.length c) v
theorem zfL{len:Nat}{c:Int}(h:0 < len):zc3 len c < len:=by unfold zc3; lia
theorem zje{S:P.R}{c:Int}(hn:0 < S.wishes.length)(hm:1<=S.many){a:Ac}(h:a∈zct S.letters c S.wishes.length S.many):a.fits S:=by
 have h1:=zdM c 9941 S.wishes.length (by lia)
 have h2:=zdM c 9931 25 (by decide)
 unfold zct at h
 split at h
 ·rw[List.mem_singleton]at h; subst h
  exact⟨by lia,h2.1⟩
 ·rename_i c0
  have hl:0 < S.letters.length:=List.length_pos_iff.mpr λz=>c0 (.inr z)
  split at h
  ·rw[List.mem_singleton]at h; subst h
   show(mix c 9941 S.wishes.length).toNat < S.wishes.length
   lia
  ·split at h
   ·obtain⟨k,hk,rfl⟩:=List.mem_map.mp h
    have:=List.mem_range'_1.mp (List.mem_filter.mp hk).1
    have hl2:=zfL (c:=c) hl
    have h3:=Int.emod_nonneg c (b:=(S.many:Int)) (by lia)
    have h4:=Int.emod_lt_of_pos c (b:=(S.many:Int)) (by lia)
    exact⟨by lia,by lia⟩
   ·obtain⟨v,hv,rfl⟩:=List.mem_map.mp h
    exact⟨zfL hl,bitsL_lt hv⟩
theorem fits_grow{S S':P.R}{a:Ac}(g:P.Grow S S')(f:a.fits S):a.fits S':=by
 cases a with
 | begin i l=>exact⟨by rw[g.w]; exact f.1,f.2⟩
 | fall i=>show i < S'.wishes.length; rw[g.w]; exact f
 | bring k v=>exact⟨Nat.lt_of_lt_of_le f.1 g.l.length_le,by rw[g.m]; exact f.2⟩
noncomputable def runs(S:P.R)(as:List Ac):P.R:=as.foldl (λS a=>a.run S) S
noncomputable def cellR(S:P.R)(c:Int):P.R:=runs S (zct S.letters c S.wishes.length S.many)
noncomputable def cellsR(S:P.R)(cs:List Int):P.R:=cs.foldl cellR S
theorem rng_range'(a b:Nat):zcH (a:Int) (b:Int)=(List.range' a (b - a)).map λ(k:Nat)=>T.int k:=by
 unfold zcH
 have e:((b:Int) - (a:Int)).toNat=b - a:=by lia
 rw[e,List.range'_eq_map_range,List.map_map]
 refine List.map_congr_left λk _=>?_
 simp
theorem isPr_eqv(x:M.Let):PyData.eqv (.str (kindOf x)) (.str "promise")=isPr x:=by
 rw[zia]
 cases x<;>simp[kindOf,isPr,s12,s23.symm,s24.symm]
theorem bestL_mxl(x:Int)(r:List Int):zdx (λa b=>decide (a < b)) x r=P.mxl x r:=by
 unfold zdx P.mxl
 congr 1
 funext a c
 by_cases h:a < c<;>simp[h]
noncomputable def plus1T:T->T
 | .tup (_::.int b::_)=>.int (b+1)
 | _=>.non
theorem plus1T_map(L:List M.Let):(L.map zbB).map plus1T=(L.map λx=>x.bal+1).map T.int:=by
 rw[List.map_map,List.map_map]
 exact List.map_congr_left λx _=>by cases x<;>rfl
noncomputable def resT(S:P.R):Ac->T
 | .begin i l=>.int ((S.askers i).due i S.wishes.length l)
 | _=>.non
noncomputable def zev(as:List Ac):Nat:=(as.map Ac.cost).sum
theorem costs_app(as:List Ac)(a:Ac):zev (as++[a])=zev as+a.cost:=by simp[zev]
theorem costs_pre{as bs:List Ac}:zev as<=zev (as++bs):=by simp[zev]
theorem zgG{as:List Ac}(h:∀ a∈as,a.cost=0):zev as=0:=by
 induction as with
 | nil=>rfl
 | cons a r ih =>
  have h1:=h a List.mem_cons_self
  have h2:=ih λx hx=>h x (lMc _ hx)
  unfold zev at h2 ⊢
  rw[List.map_cons,List.sum_cons,h1,h2]
theorem costs_acts(L:List M.Let)(c:Int)(n m:Nat):zev (zct L c n m)<=1:=by
 unfold zct
 split
 ·simp[zev,Ac.cost]
 ·split
  ·simp[zev,Ac.cost]
  ·split
   ·rw[zgG]
    ·lia
    ·intro a ha
     obtain⟨k,_,rfl⟩:=List.mem_map.mp ha
     rfl
   ·rw[zgG]
    ·lia
    ·intro a ha
     obtain⟨k,_,rfl⟩:=List.mem_map.mp ha
     rfl
theorem acts_len(L:List M.Let)(c:Int)(n m:Nat):(zct L c n m).length<=L.length+m+1:=by
 unfold zct
 split
 ·simp
 ·split
  ·simp
  ·split
   ·rw[List.length_map]
    have:=List.length_filter_le (λk=>(L[k]?).any isPr) (List.range' (zc3 L.length c) (L.length - zc3 L.length c))
    rw[List.length_range']at this
    lia
   ·rw[List.length_map]
    have:=List.length_filter_le (λ(k:Nat)=>decide (Builtin.bitAnd (mix c 9923 (2 ^ m) / 2 ^ k) 1=1)) (List.range m)
    rw[List.length_range]at this
    unfold zht
    lia
noncomputable def zhA:List (Int×Int)->Option Int
 | []=>none
 | q::_=>some q.2
section
variable {S S1 S2 S3 S4:P.R}{i:Nat}{b w:Int}
end
end Rm

namespace My
open PySem L2 L3 Rm
def top(i:Nat):Stmt:=PySem.Challenge.pw_onechoice_k02_refusals.main.body.getD i (.Pass ⟨0,0,0,0⟩)
section
variable {Pg:Program}{w:World}{K:W.Frag}{mg:Str->Option Value}{base:Heap}{Z:Cz}
def zc0(Z:Cz):Sp3:=λts G Q=>match ts with
 | [.int b]=>Q (zbB (.prepare b)) G
 | _=>False
abbrev zeh:Stmt:=top 11
local macro_rules | `(tactic| walk_at "s") => `(tactic| exact ⟨rfl,rfl,rfl,by decide +kernel,rfl,by decide +kernel,by decide +kernel⟩)
theorem sc_prepare:FnScope ["ballot"] ["ballot"] (zac zeh):=by walk_at "s"
theorem ok_prepare{f:Addr}{fd:FuncData}(F:Fun K "prepare" "prepare" zeh f fd) (aT:At K Z) (g_PREPARE:∃ t,mg "PREPARE"=some (.str "prepare" t)):FOk Pg w K mg base 1 f fd ["ballot"] (zc0 Z):=by
 refine ok3 F sc_prepare (λts G Q h=>?_) (λcdv A outer s H E hr=>?_)
 ·unfold zc0 at h; split at h<;>first | rfl | exact h.elim
 ·refine⟨_,(zaC (zbg (qtup (qa (qgs1 g_PREPARE) (qa (qv 0) qa0))))),λts G Q h=>?_⟩
  unfold zc0 at h
  split at h
  case h_2=>exact h.elim
  simp[zan,zaB,wOp,zas,wC,iI0,zad,wCB,zah,zat,zaj,zd0,zai]
  exact h
def zb0(Z:Cz):Sp3:=λts G Q=>∃ p,ts=[.ref p]/\G p=some (.ins Z.P [])/\∀ q d,G q=none->G d=none->q≠d->Q .non (updG (updG (updG G q (.lst [])) d (.dK [])) p (.ins Z.P (fP (.ref q) (.ref d))))
abbrev zby:Stmt:=zav (top 15) 0
theorem ze6:FnScope ["self"] ["self"] (zac zby):=by walk_at "s"
theorem zfc{f:Addr}{fd:FuncData}(F:Fun K "__init__" "Pile.__init__" zby f fd) (aT:At K Z) :FOk Pg w K mg base 1 f fd ["self"] (zb0 Z):=by
 refine ok3 F ze6 (λts G Q h=>?_) (λcdv A outer s H E hr=>?_)
 ·obtain⟨p,rfl,_⟩:=h; rfl
 ·refine⟨_,(qss (zay (qv 0) (qlst qa0))
   (zaC (zay (qv 0) qdnew))),λts G Q h=>?_⟩
  obtain⟨p,rfl,hp,h⟩:=h
  simp[zaG,wOp,zas,wC,iI0,zad,wCB,zah,zat,zaj,zaZ,zcM,zaq,zcN,zai]
  intro q hq
  have n1:=neG hp hq
  refine zam (by rw[zab n1]; exact hp) aT.row rfl ?_
  intro d hd
  have n2:d≠p:=by rintro rfl; rw[zaa]at hd; cases hd
  have n3:d≠q:=by rintro rfl; rw[zab n2,zaa]at hd; cases hd
  rw[zab n2,zab n3]at hd
  refine zam (by rw[zab (Ne.symm n2)]; exact zaa) aT.written rfl ?_
  rw[zeb n2]
  exact h q d hq hd (Ne.symm n3)
def zbt(Z:Cz):Sp3:=λts G Q=>∃ p pr pw L x,ts=[.ref p,zbB x]/\G p=some (.ins Z.P (fP (.ref pr) (.ref pw)))/\G pr=some (.lst (L.map zbB))/\G pw=some (wrO L)/\pr≠pw/\L.length<=1000000 /\
 Q .non (if x∈L then G else updG (updG G pw (wrO (L++[x]))) pr (.lst ((L++[x]).map zbB)))
abbrev zcE:Stmt:=zav (top 15) 1
theorem zgV:FnScope ["self","letter"] ["self","letter"] (zac zcE):=by walk_at "s"
theorem zhd{f:Addr}{fd:FuncData}(F:Fun K "write" "Pile.write" zcE f fd) (aT:At K Z) :FOk Pg w K mg base 1 f fd ["self","letter"] (zbt Z):=by
 refine ok3 F zgV (λts G Q h=>?_) (λcdv A outer s H E hr=>?_)
 ·obtain⟨p,pr,pw,L,x,rfl,_⟩:=h; rfl
 ·refine⟨_,(qss (zdX (qtin hr (qv 1) (zbW (qv 0))) (zaC qretN) zar)
   (qss (zjs hr qbl (zbW (qv 0)) (qv 1))
   (zaC (zeJ (zg2 (zbW (qv 0)) (qa (qv 1) qa0)))))),λts G Q h=>?_⟩
  obtain⟨p,pr,pw,L,x,rfl,hp,h1,h2,hne,hl,h⟩:=h
  obtain⟨r,hg,hr⟩:=wr_get x h2
  simp[zaG,zaY,zan,zgL,wOp,zas,wC,iI0,zad,wCB,zah,zat,zaj,zaZ,zbC,zbA,zis,ziv,zai,zit,app3,ze7,zbo]
  refine zag hp zgC aT.written ?_
  simp only[wInA,wr_in h2,hg,hr]
  by_cases c:x∈L
  ·simp only[c,if_true]at h
   simpa [c] using h
  ·simp only[c,if_false]at h
   simp[c]
   refine zag hp zgC aT.written ?_
   refine wr_set h2 c hl ?_
   have n1:p≠pw:=neG2 hp h2 (by cases L<;>simp[wrO])
   have n2:p≠pr:=neG2 hp h1 (by simp)
   refine zag (by rw[zab n1]; exact hp) zgD aT.row ?_
   simp[zab hne,h1,hl]
   simpa using h
def zbu(Z:Cz):Sp3:=λts G Q=>∃ p pr wr L,ts=[.ref p]/\G p=some (.ins Z.P (fP (.ref pr) wr))/\G pr=some (.lst L)/\Q (.tup L) G
abbrev zbP:Stmt:=zav (top 15) 2
theorem zfv:FnScope ["self"] ["self"] (zac zbP):=by walk_at "s"
theorem zfA{f:Addr}{fd:FuncData}(F:Fun K "letters" "Pile.letters" zbP f fd) (aT:At K Z) (b_tuple:mg "tuple"=none):FOk Pg w K mg base 1 f fd ["self"] (zbu Z):=by
 refine ok3 F zfv (λts G Q h=>?_) (λcdv A outer s H E hr=>?_)
 ·obtain⟨p,pr,wr,L,rfl,_⟩:=h; rfl
 ·refine⟨_,(zaC (zbg (zg0 b_tuple (qa (zbW (qv 0)) qa0)))),λts G Q h=>?_⟩
  obtain⟨p,pr,wr,L,rfl,hp,h1,h⟩:=h
  simp[zan,zaB,wOp,zas,wC,iI0,zad,wCB,zah,zat,zaF,zaj,zbC,zgP,zbs,zai]
  refine zag hp zgD aT.row ?_
  simpa [h1] using h
def za7(Z:Cz):Sp3:=λts G Q=>match ts with
 | [.int i,.int n,.int l]=>0 < n/\Q (.int (P.ownB i n l)) G
 | _=>False
abbrev zcC:Stmt:=top 22
theorem zee:FnScope ["number","askers","least","floor"] ["number","askers","least"] (zac zcC):=by walk_at "s"
theorem zg7{f:Addr}{fd:FuncData}(F:Fun K "own_ballot" "own_ballot" zcC f fd) (aT:At K Z) (b_max:mg "max"=none):FOk Pg w K mg base 1 f fd ["number","askers","least"] (za7 Z):=by
 refine ok3 F zee (λts G Q h=>?_) (λcdv A outer s H E hr=>?_)
 ·unfold za7 at h; split at h<;>first | rfl | exact h.elim
 ·refine⟨_,(qss (zeH 3 zee.nd (qmax2 b_max (qa (qv 2) (qa (qv 0) qa0))))
   (zaC (zbg (qadd (qv 3) (qmod (qsub (qv 0) (qv 3)) (qv 1)))))),λts G Q h=>?_⟩
  unfold za7 at h
  split at h
  case h_2=>exact h.elim
  simp[zaG,zaB,wOp,zas,wC,iI,iI0,zad,wCB,zah,zat,zaj,zaZ,zai,mx3]
  exact⟨h.1,h.2⟩
def zbb(Z:Cz):Sp3:=λts G Q=>∃ a t1 t2 t3 t4,ts=[.ref a,t1,t2,t3,t4]/\G a=some (.ins Z.A [])/\∀ q d,G q=none->G d=none->q≠d ->
 Q .non (updG (updG (updG G q (.dK [])) d (.dK [])) a (.ins Z.A (fA t1 t2 t3 t4 .non (.int 0) (.ref q) (.ref d))))
abbrev zbn:Stmt:=zav (top 23) 0
theorem zeG:FnScope ["self","number","askers","wish","many"] ["self","number","askers","wish","many"] (zac zbn):=by walk_at "s"
theorem zeS{f:Addr}{fd:FuncData}(F:Fun K "__init__" "Asker.__init__" zbn f fd) (aT:At K Z) :FOk Pg w K mg base 1 f fd ["self","number","askers","wish","many"] (zbb Z):=by
 refine ok3 F zeG (λts G Q h=>?_) (λcdv A outer s H E hr=>?_)
 ·obtain⟨a,t1,t2,t3,t4,rfl,_⟩:=h; rfl
 ·refine⟨_,(qss (zay (qv 0) (qv 1))
   (qss (zay (qv 0) (qv 2))
   (qss (zay (qv 0) (qv 3))
   (qss (zay (qv 0) (qv 4))
   (qss (zay (qv 0) ziL)
   (qss (zay (qv 0) zaA)
   (qss (zay (qv 0) qdnew)
   (zaC (zay (qv 0) qdnew))))))))),λts G Q h=>?_⟩
  obtain⟨a,t1,t2,t3,t4,rfl,hp,h⟩:=h
  simp[zaG,wOp,zas,wC,iI0,zad,wCB,zah,zat,zaj,zaZ,zaq,zcN,zai]
  refine zam hp aT.number rfl ?_
  refine zam zaa aT.step rfl ?_
  refine zam zaa aT.wish rfl ?_
  refine zam zaa aT.many rfl ?_
  refine zam zaa aT.ballot rfl ?_
  refine zam zaa aT.fresh rfl ?_
  simp only[zb9]
  intro q hq
  have n1:q≠a:=by rintro rfl; rw[zaa]at hq; cases hq
  rw[zab n1]at hq
  refine zam (by rw[zab (Ne.symm n1)]; exact zaa) aT.noted rfl ?_
  rw[zeb n1]
  intro d hd
  have n2:d≠a:=by rintro rfl; rw[zaa]at hd; cases hd
  have n3:d≠q:=by rintro rfl; rw[zab n2,zaa]at hd; cases hd
  rw[zab n2,zab n3]at hd
  refine zam (by rw[zab (Ne.symm n2)]; exact zaa) aT.asked rfl ?_
  rw[zeb n2]
  exact h q d hq hd (Ne.symm n3)
def zbN(Z:Cz):Sp3:=λts G Q=>∃ a l i n wi ma ba fr nt ak,ts=[.ref a,.int l]/\G a=some (.ins Z.A (fA (.int i) (.int n) wi ma ba (.int fr) nt ak))/\0 < n/\∀ d,G d=none ->
 Q (zbB (.prepare (P.ownB i n (P.mx l fr)))) (updG (updG G d (.dK [])) a (.ins Z.A (fA (.int i) (.int n) wi ma (.int (P.ownB i n (P.mx l fr))) (.int (P.ownB i n (P.mx l fr)+1)) (.ref d) ak)))
abbrev zch:Stmt:=zav (top 23) 1
theorem zga:FnScope ["self","least"] ["self","least"] (zac zch):=by walk_at "s"
theorem zgi{f:Addr}{fd:FuncData}(F:Fun K "begin" "Asker.begin" zch f fd) (aT:At K Z) (b_max:mg "max"=none) (F_own_ballot:zck Pg w K mg base 1 "own_ballot" ["number","askers","least"] (za7 Z)) (F_prepare:zck Pg w K mg base 1 "prepare" ["ballot"] (zc0 Z)):FOk Pg w K mg base 2 f fd ["self","least"] (zbN Z):=by
 refine ok3 F zga (λts G Q h=>?_) (λcdv A outer s H E hr=>?_)
 ·obtain⟨a,l,i,n,wi,ma,ba,fr,nt,ak,rfl,_⟩:=h; rfl
 ·refine⟨_,(qss (zay (qv 0) (zbf F_own_ballot hr (qa (zbW (qv 0)) (qa (zbW (qv 0)) (qa (qmax2 b_max (qa (qv 1) (qa (zbW (qv 0)) qa0))) qa0)))))
   (qss (zay (qv 0) (qadd (zbW (qv 0)) zaA))
   (qss (zay (qv 0) qdnew)
   (zaC (zbg (zbf F_prepare hr (qa (zbW (qv 0)) qa0))))))),λts G Q h=>?_⟩
  obtain⟨a,l,i,n,wi,ma,ba,fr,nt,ak,rfl,ha,hn,h⟩:=h
  simp[zaG,zaB,wOp,zas,wC,iI0,zad,wCB,zah,zat,zaj,zaZ,zaw,zbC,zaq,zcN,zai,mx3]
  refine zag ha fA_number aT.number ?_
  refine zag ha fA_step aT.step ?_
  refine zag ha fA_fresh aT.fresh ?_
  simp[zaG,zaB,wOp,zas,wC,iI0,zad,wCB,zah,zat,zaj,zaZ,zaw,zbC,zaq,zcN,zai,mx3,za7]
  refine⟨hn,?_⟩
  refine zam ha aT.ballot rfl ?_
  simp[zaG,zaB,wOp,zas,wC,iI0,zad,wCB,zah,zat,zaj,zaZ,zaw,zbC,zaq,zcN,zai,mx3]
  refine zag zaa zc4 aT.ballot ?_
  simp[zaG,zaB,wOp,zas,wC,iI0,zad,wCB,zah,zat,zaj,zaZ,zaw,zbC,zaq,zcN,zai,mx3]
  refine zam zaa aT.fresh rfl ?_
  simp[zaG,zaB,wOp,zas,wC,iI0,zad,wCB,zah,zat,zaj,zaZ,zaw,zbC,zaq,zcN,zai,mx3]
  rw[zb9]
  intro d hd
  have n1:d≠a:=by rintro rfl; rw[zaa]at hd; cases hd
  rw[zab n1]at hd
  refine zam (by rw[zab (Ne.symm n1)]; exact zaa) aT.noted rfl ?_
  simp[zaG,zaB,wOp,zas,wC,iI0,zad,wCB,zah,zat,zaj,zaZ,zaw,zbC,zaq,zcN,zai,mx3]
  rw[zeb n1]
  refine zag zaa zc4 aT.ballot ?_
  exact h d hd
def zcb(Z:Cz):Sp3:=λts G Q=>∃ a nu st wi ma ba fr nt ak,ts=[.ref a]/\G a=some (.ins Z.A (fA nu st wi ma ba fr nt ak))/\Q .non (updG G a (.ins Z.A (fA nu st wi ma .non fr nt ak)))
abbrev zcG:Stmt:=zav (top 23) 2
theorem zgX:FnScope ["self"] ["self"] (zac zcG):=by walk_at "s"
theorem zhf{f:Addr}{fd:FuncData}(F:Fun K "fall" "Asker.fall" zcG f fd) (aT:At K Z) :FOk Pg w K mg base 1 f fd ["self"] (zcb Z):=by
 refine ok3 F zgX (λts G Q h=>?_) (λcdv A outer s H E hr=>?_)
 ·obtain⟨a,nu,st,wi,ma,ba,fr,nt,ak,rfl,_⟩:=h; rfl
 ·refine⟨_,(zaC (zay (qv 0) ziL)),λts G Q h=>?_⟩
  obtain⟨a,nu,st,wi,ma,ba,fr,nt,ak,rfl,ha,h⟩:=h
  simp[wOp,zas,wC,iI0,zad,wCB,zah,zat,zaj,zaZ,zaq,zai]
  refine zam ha aT.ballot rfl ?_
  exact h
def za9(Z:Cz):Sp3:=λts G Q=>∃ a t,ts=[.ref a,t]/\G a=some (.ins Z.V [])/\Q .non (updG G a (.ins Z.V (fV t .non .non)))
abbrev zbm:Stmt:=zav (top 25) 0
theorem zeF:FnScope ["self","number"] ["self","number"] (zac zbm):=by walk_at "s"
theorem zeP{f:Addr}{fd:FuncData}(F:Fun K "__init__" "Voter.__init__" zbm f fd) (aT:At K Z) :FOk Pg w K mg base 1 f fd ["self","number"] (za9 Z):=by
 refine ok3 F zeF (λts G Q h=>?_) (λcdv A outer s H E hr=>?_)
 ·obtain⟨a,t,rfl,_⟩:=h; rfl
 ·refine⟨_,(qss (zay (qv 0) (qv 1))
   (qss (zay (qv 0) ziL)
   (zaC (zay (qv 0) ziL)))),λts G Q h=>?_⟩
  obtain⟨a,t,rfl,hp,h⟩:=h
  simp[zaG,wOp,zas,wC,iI0,zad,wCB,zah,zat,zaj,zaZ,zaq,zai]
  refine zam hp aT.vnumber rfl ?_
  refine zam zaa aT.bound rfl ?_
  refine zam zaa aT.last rfl ?_
  simp only[zb9]
  exact h
def za8(Z:Cz):Sp3:=λts G Q=>∃ a nu bo la,ts=[.ref a]/\G a=some (.ins Z.V (fV nu bo la))/\Q bo G
abbrev zbk:Stmt:=zav (top 25) 1
theorem zeD:FnScope ["self"] ["self"] (zac zbk):=by walk_at "s"
theorem zeN{f:Addr}{fd:FuncData}(F:Fun K "promised" "Voter.promised" zbk f fd) (aT:At K Z) :FOk Pg w K mg base 1 f fd ["self"] (za8 Z):=by
 refine ok3 F zeD (λts G Q h=>?_) (λcdv A outer s H E hr=>?_)
 ·obtain⟨a,nu,bo,la,rfl,_⟩:=h; rfl
 ·refine⟨_,(zaC (zbg (zbW (qv 0)))),λts G Q h=>?_⟩
  obtain⟨a,nu,bo,la,rfl,ha,h⟩:=h
  simp[zaB,wOp,zas,wC,iI0,zad,wCB,zah,zat,zaj,zbC,zai]
  exact zag ha zet aT.bound h
def zbL(Z:Cz):Sp3:=λts G Q=>∃ a nu bo la,ts=[.ref a]/\G a=some (.ins Z.V (fV nu bo la))/\Q la G
abbrev zce:Stmt:=zav (top 25) 2
theorem zf6:FnScope ["self"] ["self"] (zac zce):=by walk_at "s"
theorem zge{f:Addr}{fd:FuncData}(F:Fun K "voted" "Voter.voted" zce f fd) (aT:At K Z) :FOk Pg w K mg base 1 f fd ["self"] (zbL Z):=by
 refine ok3 F zf6 (λts G Q h=>?_) (λcdv A outer s H E hr=>?_)
 ·obtain⟨a,nu,bo,la,rfl,_⟩:=h; rfl
 ·refine⟨_,(zaC (zbg (zbW (qv 0)))),λts G Q h=>?_⟩
  obtain⟨a,nu,bo,la,rfl,ha,h⟩:=h
  simp[zaB,wOp,zas,wC,iI0,zad,wCB,zah,zat,zaj,zbC,zai]
  exact zag ha zi1 aT.last h
def zaR(Z:Cz):Sp3:=λts G Q=>∃ r la L ma pi x t,∃ i:Nat,ts=[.ref r,.int i]/\G r=some (.ins Z.R (fR ma pi (.ref la) x))/\G la=some (.lst L)/\L[i]?=some t/\Q t G
abbrev za4:Stmt:=zav (top 27) 15
theorem zdu:FnScope ["self","asker"] ["self","asker"] (zac za4):=by walk_at "s"
theorem zfa{f:Addr}{fd:FuncData}(F:Fun K "asker_at" "Room.asker_at" za4 f fd) (aT:At K Z) (b_len:mg "len"=none):FOk Pg w K mg base 1 f fd ["self","asker"] (zaR Z):=by
 refine ok3 F zdu (λts G Q h=>?_) (λcdv A outer s H E hr=>?_)
 ·obtain⟨r,la,L,ma,pi,x,t,i,rfl,_⟩:=h; rfl
 ·refine⟨_,(qss (zdX (PW.pt (qwor (qtlt (qv 1) zaA) (qw1o (qtge (qv 1) (zdw b_len (qa (zbW (qv 0)) qa0)))))) (zaC qnever) zar)
   (zaC (zbg (zdz hr (zbW (qv 0)) (qv 1))))),λts G Q h=>?_⟩
  obtain⟨r,la,L,ma,pi,x,t,i,rfl,hr',hla,ht,h⟩:=h
  obtain⟨hi,hi2⟩:=List.getElem?_eq_some_iff.mp ht
  have e1:¬ ((i:Int) < 0):=by lia
  have e2:¬ ((L.length:Int)<=(i:Int)):=by lia
  simp[zaG,zaY,zan,zaB,wOp,zas,wC,iI0,zad,wCB,zah,zat,zaX,zaF,ix3,ixA,zc7,zaj,wOr,zbC,zai,zbh,zbo,e1]
  refine zag hr' zdO aT.askers ?_
  simp[hla,e2]
  refine⟨hi,zag hr' zdO aT.askers ?_⟩
  simp[hla]
  have e1:atI L (i:Int)=some t:=zcT ht
  simpa [e1] using h
def zaQ(Z:Cz):Sp3:=λts G Q=>∃ r la L ma pi x t,∃ i:Nat,ts=[.ref r,.int i]/\G r=some (.ins Z.R (fR ma pi x (.ref la)))/\G la=some (.lst L)/\L[i]?=some t/\Q t G
abbrev za2:Stmt:=zav (top 27) 16
theorem zds:FnScope ["self","voter"] ["self","voter"] (zac za2):=by walk_at "s"
theorem ze8{f:Addr}{fd:FuncData}(F:Fun K "voter_at" "Room.voter_at" za2 f fd) (aT:At K Z) (b_len:mg "len"=none):FOk Pg w K mg base 1 f fd ["self","voter"] (zaQ Z):=by
 refine ok3 F zds (λts G Q h=>?_) (λcdv A outer s H E hr=>?_)
 ·obtain⟨r,la,L,ma,pi,x,t,i,rfl,_⟩:=h; rfl
 ·refine⟨_,(qss (zdX (PW.pt (qwor (qtlt (qv 1) zaA) (qw1o (qtge (qv 1) (zdw b_len (qa (zbW (qv 0)) qa0)))))) (zaC qnever) zar)
   (zaC (zbg (zdz hr (zbW (qv 0)) (qv 1))))),λts G Q h=>?_⟩
  obtain⟨r,la,L,ma,pi,x,t,i,rfl,hr',hla,ht,h⟩:=h
  obtain⟨hi,hi2⟩:=List.getElem?_eq_some_iff.mp ht
  have e1:¬ ((i:Int) < 0):=by lia
  have e2:¬ ((L.length:Int)<=(i:Int)):=by lia
  simp[zaG,zaY,zan,zaB,wOp,zas,wC,iI0,zad,wCB,zah,zat,zaX,zaF,ix3,ixA,zc7,zaj,wOr,zbC,zai,zbh,zbo,e1]
  refine zag hr' zfQ aT.voters ?_
  simp[hla,e2]
  refine⟨hi,zag hr' zfQ aT.voters ?_⟩
  simp[hla]
  have e1:atI L (i:Int)=some t:=zcT ht
  simpa [e1] using h
def za1(Z:Cz):Sp3:=λts G Q=>∃ A S,ts=[.ref (A .r)]/\RoomAt Z G A S/\Q (.tup (S.letters.map zbB)) G
abbrev zbO:Stmt:=zav (top 27) 1
theorem zfu:FnScope ["self"] ["self"] (zac zbO):=by walk_at "s"
theorem zfz{f:Addr}{fd:FuncData}(F:Fun K "letters" "Room.letters" zbO f fd) (aT:At K Z) (M_Pile_letters:za6 Pg w K mg base 1 Z.P "letters" ["self"] (zbu Z)):FOk Pg w K mg base 2 f fd ["self"] (za1 Z):=by
 refine ok3 F zfu (λts G Q h=>?_) (λcdv A outer s H E hr=>?_)
 ·obtain⟨A,S,rfl,_⟩:=h; rfl
 ·refine⟨_,(zaC (zbg (zb7 (zbW (qv 0)) M_Pile_letters hr))),λts G Q h=>?_⟩
  obtain⟨A,S,rfl,R,h⟩:=h
  simp[zaB,wOp,zas,wC,iI0,zad,wCB,zah,zat,zaj,zbC,zaz,zai]
  refine zag (R.at' .r trivial) zdN aT.pile ?_
  refine zaf (R.at' .p trivial) rfl ?_
  exact⟨_,_,_,_,rfl,R.at' .p trivial,R.at' .pr trivial,h⟩
def zca(Z:Cz):Sp3:=λts G Q=>∃ A S l,∃ i:Nat,ts=[.ref (A .r),.int i,.int l]/\RoomAt Z G A S/\i < S.wishes.length/\S.letters.length<=1000000 /\
 ∀ A' G',A' .r=A .r->RoomAt Z G' A' (S.begin i l)->Fr G A S G' A' (S.begin i l)->Q (.int ((S.askers i).due i S.wishes.length l)) G'
abbrev zbU:Stmt:=zav (top 27) 2
theorem zcc:FnScope ["self","asker","least","letter"] ["self","asker","least"] (zac zbU):=by walk_at "s"
theorem zhc{f:Addr}{fd:FuncData}(F:Fun K "begin" "Room.begin" zbU f fd) (aT:At K Z) (M_Asker_begin:za6 Pg w K mg base 2 Z.A "begin" ["self","least"] (zbN Z)) (M_Pile_write:za6 Pg w K mg base 1 Z.P "write" ["self","letter"] (zbt Z)) (M_Room_asker_at:za6 Pg w K mg base 1 Z.R "asker_at" ["self","asker"] (zaR Z)):FOk Pg w K mg base 3 f fd ["self","asker","least"] (zca Z):=by
 refine ok3 F zcc (λts G Q h=>?_) (λcdv A outer s H E hr=>?_)
 ·obtain⟨A,S,l,i,rfl,_⟩:=h; rfl
 ·refine⟨_,(qss (zeH 3 zcc.nd (zb2 (zb2 (qv 0) (M_Room_asker_at.mono (by decide:1<=2)) hr (qa (qv 1) qa0)) M_Asker_begin hr (qa (qv 2) qa0)))
   (qss (zeJ (zb2 (zbW (qv 0)) (M_Pile_write.mono (by decide:1<=2)) hr (qa (qv 3) qa0)))
   (zaC (zbg (zdz hr (qv 3) zaA))))),λts G Q h=>?_⟩
  obtain⟨A,S,l,i,rfl,R,hi,hl,h⟩:=h
  simp[zaG,zaB,wOp,zas,wC,iI0,zad,wCB,zah,zat,zaF,ix3,ixA,zc7,zaj,zaZ,zbC,zaW,zbA,zai,zbo]
  refine zaf (R.at' .r trivial) rfl ?_
  refine⟨_,_,_,_,_,_,.ref (A (.as i)),i,rfl,R.at' .r trivial,R.at' .la trivial,by simp[hi],?_⟩
  refine zaf (R.at' (.as i) hi) rfl ?_
  refine⟨_,_,_,_,_,_,_,_,_,_,rfl,R.at' (.as i) hi,by lia,λd hd=>?_⟩
  obtain⟨R1,F1⟩:=R.begin hi hd ((S.askers i).due i S.wishes.length l) ((S.askers i).due i S.wishes.length l+1)
  simp[zaG,zaB,wOp,zas,wC,iI0,zad,wCB,zah,zat,zaF,ix3,ixA,zc7,zaj,zaZ,zbC,zaW,zbA,zai,zbo]
  have e0:M.upd A (.nt i) d .r=A .r:=by simp[zfg]
  refine zag (e0 ▸ R1.at' .r trivial) zdN aT.pile ?_
  refine zaf (R1.at' .p trivial) rfl ?_
  refine⟨_,_,_,_,_,rfl,R1.at' .p trivial,R1.at' .pr trivial,R1.at' .pw trivial,R1.ne (s:=.pr) (t:=.pw) trivial trivial (by simp),hl,?_⟩
  obtain⟨R2,F2⟩:=R1.wrote (.prepare ((S.askers i).due i S.wishes.length l)) rfl
  exact h _ _ e0 R2 (F1.trans F2)
def zdH(Z:Cz):Sp3:=λts G Q=>∃ A S,∃ i:Nat,ts=[.ref (A .r),.int i]/\RoomAt Z G A S/\i < S.wishes.length/\∀ G',RoomAt Z G' A (S.fall i)->Fr G A S G' A (S.fall i)->Q .non G'
abbrev zcq:Stmt:=zav (top 27) 3
theorem zeY:FnScope ["self","asker"] ["self","asker"] (zac zcq):=by walk_at "s"
theorem zhW{f:Addr}{fd:FuncData}(F:Fun K "fall" "Room.fall" zcq f fd) (aT:At K Z) (M_Asker_fall:za6 Pg w K mg base 1 Z.A "fall" ["self"] (zcb Z)) (M_Room_asker_at:za6 Pg w K mg base 1 Z.R "asker_at" ["self","asker"] (zaR Z)):FOk Pg w K mg base 2 f fd ["self","asker"] (zdH Z):=by
 refine ok3 F zeY (λts G Q h=>?_) (λcdv A outer s H E hr=>?_)
 ·obtain⟨A,S,i,rfl,_⟩:=h; rfl
 ·refine⟨_,(zaC (zeJ (zb7 (zb2 (qv 0) M_Room_asker_at hr (qa (qv 1) qa0)) M_Asker_fall hr))),λts G Q h=>?_⟩
  obtain⟨A,S,i,rfl,R,hi,h⟩:=h
  simp[wOp,zas,wC,iI0,zad,wCB,zah,zat,zaj,zaW,zaz,zbA,zai]
  refine zaf (R.at' .r trivial) rfl ?_
  refine⟨_,_,_,_,_,_,.ref (A (.as i)),i,rfl,R.at' .r trivial,R.at' .la trivial,by simp[hi],?_⟩
  refine zaf (R.at' (.as i) hi) rfl ?_
  exact⟨_,_,_,_,_,_,_,_,_,rfl,R.at' (.as i) hi,h _ (R.fall hi) (Fr.put (s:=.as i) hi λt=>Iff.rfl)⟩
def zbY(Z:Cz):Sp3:=λts G Q=>∃ A S,∃ i:Nat,ts=[.ref (A .r),.int i]/\RoomAt Z G A S/\i < S.many/\Q (oI (S.voters i).promised) G
abbrev za3:Stmt:=zav (top 27) 5
theorem zdt:FnScope ["self","voter"] ["self","voter"] (zac za3):=by walk_at "s"
theorem ze9{f:Addr}{fd:FuncData}(F:Fun K "promised" "Room.promised" za3 f fd) (aT:At K Z) (M_Room_voter_at:za6 Pg w K mg base 1 Z.R "voter_at" ["self","voter"] (zaQ Z)) (M_Voter_promised:za6 Pg w K mg base 1 Z.V "promised" ["self"] (za8 Z)):FOk Pg w K mg base 2 f fd ["self","voter"] (zbY Z):=by
 refine ok3 F zdt (λts G Q h=>?_) (λcdv A outer s H E hr=>?_)
 ·obtain⟨A,S,i,rfl,_⟩:=h; rfl
 ·refine⟨_,(zaC (zbg (zb7 (zb2 (qv 0) M_Room_voter_at hr (qa (qv 1) qa0)) M_Voter_promised hr))),λts G Q h=>?_⟩
  obtain⟨A,S,i,rfl,R,hi,h⟩:=h
  simp[zaB,wOp,zas,wC,iI0,zad,wCB,zah,zat,zaj,zaW,zaz,zai]
  refine zaf (R.at' .r trivial) rfl ?_
  refine⟨_,_,_,_,_,_,.ref (A (.vs i)),i,rfl,R.at' .r trivial,R.at' .lv trivial,by simp[hi],?_⟩
  refine zaf (R.at' (.vs i) hi) rfl ?_
  exact⟨_,_,_,_,rfl,R.at' (.vs i) hi,h⟩
def zda(Z:Cz):Sp3:=λts G Q=>∃ A S,∃ i:Nat,ts=[.ref (A .r),.int i]/\RoomAt Z G A S/\i < S.many/\Q (oP (S.voters i).voted) G
abbrev zbT:Stmt:=zav (top 27) 6
theorem zef:FnScope ["self","voter"] ["self","voter"] (zac zbT):=by walk_at "s"
theorem zha{f:Addr}{fd:FuncData}(F:Fun K "voted" "Room.voted" zbT f fd) (aT:At K Z) (M_Room_voter_at:za6 Pg w K mg base 1 Z.R "voter_at" ["self","voter"] (zaQ Z)) (M_Voter_voted:za6 Pg w K mg base 1 Z.V "voted" ["self"] (zbL Z)):FOk Pg w K mg base 2 f fd ["self","voter"] (zda Z):=by
 refine ok3 F zef (λts G Q h=>?_) (λcdv A outer s H E hr=>?_)
 ·obtain⟨A,S,i,rfl,_⟩:=h; rfl
 ·refine⟨_,(zaC (zbg (zb7 (zb2 (qv 0) M_Room_voter_at hr (qa (qv 1) qa0)) M_Voter_voted hr))),λts G Q h=>?_⟩
  obtain⟨A,S,i,rfl,R,hi,h⟩:=h
  simp[zaB,wOp,zas,wC,iI0,zad,wCB,zah,zat,zaj,zaW,zaz,zai]
  refine zaf (R.at' .r trivial) rfl ?_
  refine⟨_,_,_,_,_,_,.ref (A (.vs i)),i,rfl,R.at' .r trivial,R.at' .lv trivial,by simp[hi],?_⟩
  refine zaf (R.at' (.vs i) hi) rfl ?_
  exact⟨_,_,_,_,rfl,R.at' (.vs i) hi,h⟩
def zbE(Z:Cz):Sp3:=λts G Q=>∃ A S,∃ i:Nat,ts=[.ref (A .r),.int i]/\RoomAt Z G A S/\i < S.wishes.length/\Q (oI (S.askers i).ballot) G
abbrev zaS:Stmt:=zav (top 27) 7
theorem zc1:FnScope ["self","asker"] ["self","asker"] (zac zaS):=by walk_at "s"
theorem zeQ{f:Addr}{fd:FuncData}(F:Fun K "ballot_of" "Room.ballot_of" zaS f fd) (aT:At K Z) (M_Room_asker_at:za6 Pg w K mg base 1 Z.R "asker_at" ["self","asker"] (zaR Z)):FOk Pg w K mg base 2 f fd ["self","asker"] (zbE Z):=by
 refine ok3 F zc1 (λts G Q h=>?_) (λcdv A outer s H E hr=>?_)
 ·obtain⟨A,S,i,rfl,_⟩:=h; rfl
 ·refine⟨_,(zaC (zbg (zbW (zb2 (qv 0) M_Room_asker_at hr (qa (qv 1) qa0))))),λts G Q h=>?_⟩
  obtain⟨A,S,i,rfl,R,hi,h⟩:=h
  simp[zaB,wOp,zas,wC,iI0,zad,wCB,zah,zat,zaj,zbC,zaW,zai]
  refine zaf (R.at' .r trivial) rfl ?_
  refine⟨_,_,_,_,_,_,.ref (A (.as i)),i,rfl,R.at' .r trivial,R.at' .la trivial,by simp[hi],?_⟩
  exact zag (R.at' (.as i) hi) zc4 aT.ballot h
def zau(Z:Cz):Sp3:=λts G Q=>match ts with
 | [.int a,.int b]=>Q (.bl (decide (b < 2 * a))) G
 | _=>False
abbrev zbj:Stmt:=top 17
theorem zeC:FnScope ["some","many"] ["some","many"] (zac zbj):=by walk_at "s"
theorem zeM{f:Addr}{fd:FuncData}(F:Fun K "more_than_half" "more_than_half" zbj f fd) (aT:At K Z) :FOk Pg w K mg base 1 f fd ["some","many"] (zau Z):=by
 refine ok3 F zeC (λts G Q h=>?_) (λcdv A outer s H E hr=>?_)
 ·unfold zau at h; split at h<;>first | rfl | exact h.elim
 ·refine⟨_,(zaC (zbg (qgt (qmul zaA (qv 0)) (qv 1)))),λts G Q h=>?_⟩
  unfold zau at h
  split at h
  case h_2=>exact h.elim
  simp[zaB,wOp,zas,wC,iI,iI0,zad,wCB,zah,zat,zaj,zai]
  exact⟨.inl ⟨by decide,by decide⟩,h⟩
theorem zfY{W:List Int}{m:Nat}{G0:Gp}{Q:List T->Gp->Prop}:∀ (j k:Nat) (A:Adr) (G:Gp),k+j=W.length->Bk (LvA k) (obj Z (P.new W m)) G0 A G ->
  (∀ A' G',(∀ t,LvA 0 t->A' t=A t)->Bk (LvA W.length) (obj Z (P.new W m)) G0 A' G'->Q ((List.range W.length).map λi=>T.ref (A' (.as i))) G') ->
  zfU (hTup 2 (zfe (zaH 0) (zfe (zaH 1) hNil))) zai (zcL Z.A (zbb Z) (zah (zas 0) (zah (wCB zaX (zah (zas 3) zat)) (zah (zas 1) (zah (zas 2) zat))))) (λ_=>True)
   ((zd7 (W.map T.int)).drop k) [none,none,some (.int m),some (.tup (W.map T.int))] ((List.range k).map λi=>T.ref (A (.as i))) G Q
 | 0,k,A,G,e,B,h=>by
  have ek:k=W.length:=by lia
  subst ek
  have:(zd7 (W.map T.int)).drop W.length=[]:=List.drop_eq_nil_of_le (by simp[zd7])
  rw[this]
  exact⟨trivial,h A G (λ_ _=>rfl) B⟩
 | j+1,k,A,G,e,B,h=>by
  have hk:k < W.length:=by lia
  rw[enum_drop hk]
  simp[zfU,zaG,zaY,zan,zaB,zgL,wOp,zas,wC,iI,iI0,zad,wCB,zah,zat,zaX,zaF,ix3,ixA,zc7,zaj,zaZ,zaw,zd0,zcM,zhw,zdy,zgo,wOr,zd9,ziA,wOrV,zix,ziy,wIsN,zb8,isN,zbC,zaq,zaW,zaz,zcL,zbA,zis,zaH,ziv,zcN,zgP,zbs,iR1,iR2,zai,wIsi,isInt,zfN,zd6,mx3,mn3,zcX,wP0,wP1,zb4,zit,app3,ze7,zdq,zeq,zbh,hTup,zfe,hNil,ziz,zez,ziw,zbo]
  intro x hx
  refine⟨x,_,_,_,_,rfl,zaa,λq d hq hd hqd=>?_⟩
  have n1:q≠x:=by rintro rfl; rw[zaa]at hq; cases hq
  have n2:d≠x:=by rintro rfl; rw[zaa]at hd; cases hd
  rw[zab n1]at hq
  rw[zab n2]at hd
  rw[zgq n1 n2]
  obtain⟨A',hA,hx',B'⟩:=B.asker hx hq hd n1 n2 hqd
  have ih:=zfY (Q:=Q) j (k+1) A' _ (by lia) B' λA2 G2 e2 B2=>h A2 G2 (λt ht=>(e2 t ht).trans (hA t (by cases t<;>simp[LvA]at ht ⊢))) B2
  have ea:((List.range (k+1)).map λi=>T.ref (A' (.as i)))=((List.range k).map λi=>T.ref (A (.as i)))++[.ref x]:=by
   rw[List.range_succ,List.map_append]
   congr 1
   ·refine List.map_congr_left λi hi=>?_
    rw[hA (.as i) (List.mem_range.mp hi)]
   ·simp[hx']
  rw[ea]at ih
  exact ih
theorem zfp{W:List Int}{m:Nat}{G0:Gp}{Q:List T->Gp->Prop}:∀ (j k:Nat) (A:Adr) (G:Gp),k+j=m->Bk (LvV W.length k) (obj Z (P.new W m)) G0 A G ->
  (∀ A' G',(∀ t,LvA 0 t∨t=.la->A' t=A t)->Bk (LvV W.length m) (obj Z (P.new W m)) G0 A' G'->Q ((List.range m).map λi=>T.ref (A' (.vs i))) G') ->
  zfU (zaH 0) zai (zcL Z.V (za9 Z) (zah (zas 0) zat)) (λ_=>True) ((zcH 0 m).drop k) [none] ((List.range k).map λi=>T.ref (A (.vs i))) G Q
 | 0,k,A,G,e,B,h=>by
  have ek:k=m:=by lia
  subst ek
  have:(zcH 0 (k:Int)).drop k=[]:=List.drop_eq_nil_of_le (by simp[zcH])
  rw[this]
  exact⟨trivial,h A G (λ_ _=>rfl) B⟩
 | j+1,k,A,G,e,B,h=>by
  have hk:k < m:=by lia
  rw[rng_drop hk]
  simp[zfU,zaG,zaY,zan,zaB,zgL,wOp,zas,wC,iI,iI0,zad,wCB,zah,zat,zaX,zaF,ix3,ixA,zc7,zaj,zaZ,zaw,zd0,zcM,zhw,zdy,zgo,wOr,zd9,ziA,wOrV,zix,ziy,wIsN,zb8,isN,zbC,zaq,zaW,zaz,zcL,zbA,zis,zaH,ziv,zcN,zgP,zbs,iR1,iR2,zai,wIsi,isInt,zfN,zd6,mx3,mn3,zcX,wP0,wP1,zb4,zit,app3,ze7,zdq,zeq,zbh,hTup,zfe,hNil,ziz,zez,ziw,zbo]
  intro x hx
  refine⟨x,_,rfl,zaa,?_⟩
  rw[zb9]
  obtain⟨A',hA,hx',B'⟩:=B.voter hx
  have ih:=zfp (Q:=Q) j (k+1) A' _ (by lia) B' λA2 G2 e2 B2=>h A2 G2 (λt ht=>(e2 t ht).trans (hA t (by cases t<;>simp[LvA,LvV]at ht ⊢))) B2
  have ea:((List.range (k+1)).map λi=>T.ref (A' (.vs i)))=((List.range k).map λi=>T.ref (A (.vs i)))++[.ref x]:=by
   rw[List.range_succ,List.map_append]
   congr 1
   ·refine List.map_congr_left λi hi=>?_
    rw[hA (.vs i) (List.mem_range.mp hi)]
   ·simp[hx']
  rw[ea]at ih
  exact ih
def zbZ(Z:Cz):Sp3:=λts G Q=>∃ r W,∃ m:Nat,ts=[.ref r,.tup (W.map T.int),.int m]/\G r=some (.ins Z.R [])/\W.length<=1000/\m<=1000/\∀ A G',A .r=r->RoomAt Z G' A (P.new W m)->(∀ a o,a≠r->G a=some o->G' a=some o/\¬ own A (P.new W m) a)->Q .non G'
abbrev zaN:Stmt:=zav (top 27) 0
theorem ze5:FnScope ["self","wishes","many"] ["self","wishes","many"] (zac zaN):=by walk_at "s"
theorem zfb{f:Addr}{fd:FuncData}(F:Fun K "__init__" "Room.__init__" zaN f fd) (aT:At K Z) (b_enumerate:mg "enumerate"=none) (b_len:mg "len"=none) (b_range:mg "range"=none) (N_Asker:MkAt Pg w K mg base 1 "Asker" Z.A ["self","number","askers","wish","many"] (zbb Z)) (N_Pile:MkAt Pg w K mg base 1 "Pile" Z.P ["self"] (zb0 Z)) (N_Voter:MkAt Pg w K mg base 1 "Voter" Z.V ["self","number"] (za9 Z)):FOk Pg w K mg base 3 f fd ["self","wishes","many"] (zbZ Z):=by
 refine ok3 F ze5 (λts G Q h=>?_) (λcdv A outer s H E hr=>?_)
 ·obtain⟨r,W,m,rfl,_⟩:=h; rfl
 ·refine⟨_,(qss (zay (qv 0) (qv 2))
   (qss (zay (qv 0) (cmake0 N_Pile hr))
   (qss (zay (qv 0) (zg1 ["number","wish","many","wishes"] [none,none,some 2,some 1] (zgm (oN:=["self","wishes","many"]) (osc:=zac zaN) rfl rfl (by decide +kernel)) (qi_enum b_enumerate (qa (qv 1) qa0)) (λ_ _ _ _=>(qgtup (n:=2) (qgs (zbV 0 (show List.Nodup (["number","wish","many","wishes"]:List Str)by decide +kernel)) (qgs (zbV 1 (show List.Nodup (["number","wish","many","wishes"]:List Str)by decide +kernel)) qgs0)))) (λ_ _ _ _=>qifs0) (λ_ _ _ _=>(cmake N_Asker hr (qa (qv 0) (qa (zdw b_len (qa (qv 3) qa0)) (qa (qv 1) (qa (qv 2) qa0))))))))
   (zaC (zay (qv 0) (zg1 ["number"] [none] (zgm (oN:=["self","wishes","many"]) (osc:=zac zaN) rfl rfl (by decide +kernel)) (qi_r1 b_range (qa (qv 2) qa0)) (λ_ _ _ _=>(zbV 0 (show List.Nodup (["number"]:List Str)by decide +kernel))) (λ_ _ _ _=>qifs0) (λ_ _ _ _=>(cmake N_Voter hr (qa (qv 0) qa0))))))))),λts G Q h=>?_⟩
  obtain⟨r,W,m,rfl,hr',hW,hm,h⟩:=h
  simp[zaG,zaY,wOp,zas,wC,iI0,zad,wCB,zah,zat,zaX,zaF,zaj,zaZ,zcM,zaq,zcL,zaH,iR1,zai,zdq,hTup,zfe,hNil]
  refine zam hr' aT.rmany rfl ?_
  simp[zaG,zaY,wOp,zas,wC,iI0,zad,wCB,zah,zat,zaX,zaF,zaj,zaZ,zcM,zaq,zcL,zaH,iR1,zai,zdq,hTup,zfe,hNil]
  intro p hp
  have np:p≠r:=by rintro rfl; rw[zaa]at hp; cases hp
  rw[zab np]at hp
  refine⟨p,rfl,zaa,λq d hq hd hqd=>?_⟩
  have n1:q≠p:=by rintro rfl; rw[zaa]at hq; cases hq
  have n2:d≠p:=by rintro rfl; rw[zaa]at hd; cases hd
  rw[zab n1]at hq
  rw[zab n2]at hd
  have n3:q≠r:=by rintro rfl; rw[zaa]at hq; cases hq
  have n4:d≠r:=by rintro rfl; rw[zaa]at hd; cases hd
  rw[zab n3]at hq
  rw[zab n4]at hd
  rw[zgq n1 n2]
  refine zam (by rw[zab (Ne.symm np),zab (Ne.symm n4),zab (Ne.symm n3)]; exact zaa) aT.pile rfl ?_
  have eG:updG (updG (updG (updG (updG G r (GO.ins Z.R (zgx "many" (T.int m) []))) q (GO.lst [])) d (GO.dK [])) p (GO.ins Z.P (fP (T.ref q) (T.ref d)))) r (GO.ins Z.R (zgx "pile" (T.ref p) (zgx "many" (T.int m) []))) =
    updG (updG (updG (updG G r (GO.ins Z.R (zgx "pile" (T.ref p) (zgx "many" (T.int m) [])))) q (GO.lst [])) d (GO.dK [])) p (GO.ins Z.P (fP (T.ref q) (T.ref d))):=by
   funext b
   simp only[zgO]
   by_cases e1:b=r
   ·subst e1; simp[Ne.symm np,Ne.symm n3,Ne.symm n4]
   ·simp[e1]
  rw[eG]
  obtain⟨A0,ep,B0⟩:=Bk.pile (Z:=Z) (W:=W) (m:=m) (G0:=updG G r (GO.ins Z.R (zgx "pile" (T.ref p) (zgx "many" (T.int m) [])))) (p:=p) (q:=q) (d:=d) (by rw[zab np]; exact hp) (by rw[zab n3]; exact hq) (by rw[zab n4]; exact hd) n1 n2 hqd
  simp only[zaG,zaq,zbX,iEnum,zah,zas,zat,List.getElem?_cons_succ,List.getElem?_cons_zero]
  refine⟨by simp[zd7]; lia,?_⟩
  refine zfY W.length 0 A0 _ (by lia) B0 λA1 G1 a1 B1=>?_
  intro la hla
  have r1:G1 r=some (GO.ins Z.R (zgx "pile" (T.ref p) (zgx "many" (T.int m) []))):=B1.old r _ zaa
  have nl:la≠r:=by rintro rfl; rw[r1]at hla; cases hla
  refine zam (by rw[zab (Ne.symm nl)]; exact r1) aT.askers rfl ?_
  have B2:=(B1.la hla).rebase (u:=GO.ins Z.R (zgx "askers" (T.ref la) (zgx "pile" (T.ref p) (zgx "many" (T.int m) [])))) zaa
  simp only[zaq,zbX,iR1,zah,zas,zat,List.getElem?_cons_succ,List.getElem?_cons_zero]
  refine⟨⟨by lia,by lia⟩,by simp[zcH]; lia,?_⟩
  refine zfp m 0 _ _ (by lia) B2 λA3 G3 a3 B3=>?_
  intro lv hlv
  have r3:G3 r=some (GO.ins Z.R (zgx "askers" (T.ref la) (zgx "pile" (T.ref p) (zgx "many" (T.int m) [])))):=B3.old r _ zaa
  have nv:lv≠r:=by rintro rfl; rw[r3]at hlv; cases hlv
  refine zam (by rw[zab (Ne.symm nv)]; exact r3) aT.voters rfl ?_
  obtain⟨R,F⟩:=B3.room hlv (r:=r) zaa
  have e1:A3 .p=p:=(a3 .p (.inl trivial)).trans ((by simp[zfg]:M.upd A1 .la la .p=A1 .p).trans ((a1 .p trivial).trans ep))
  have e2:A3 .la=la:=(a3 .la (.inr rfl)).trans (by simp[zfg])
  rw[e1,e2]at R F
  refine h _ _ (by simp[zfg]) R λa o ha e=>?_
  exact F a o ha (by rw[zab ha,zab ha]; exact e)
def zcZ(Z:Cz):Sp3:=λts G Q=>match ts with
 | [.int b,.int v,t]=>Q (.tup [.str "promise",.int b,.int v,t]) G
 | _=>False
abbrev zeg:Stmt:=top 12
theorem sc_promise:FnScope ["ballot","voter","last"] ["ballot","voter","last"] (zac zeg):=by walk_at "s"
theorem ok_promise{f:Addr}{fd:FuncData}(F:Fun K "promise" "promise" zeg f fd) (aT:At K Z) (g_PROMISE:∃ t,mg "PROMISE"=some (.str "promise" t)):FOk Pg w K mg base 1 f fd ["ballot","voter","last"] (zcZ Z):=by
 refine ok3 F sc_promise (λts G Q h=>?_) (λcdv A outer s H E hr=>?_)
 ·unfold zcZ at h; split at h<;>first | rfl | exact h.elim
 ·refine⟨_,(zaC (zbg (qtup (qa (qgs1 g_PROMISE) (qa (qv 0) (qa (qv 1) (qa (qv 2) qa0))))))),λts G Q h=>?_⟩
  unfold zcZ at h
  split at h
  case h_2=>exact h.elim
  simp[zan,zaB,wOp,zas,wC,iI0,zad,wCB,zah,zat,zaj,zd0,zai]
  exact h
def zhE(Z:Cz):Sp3:=λts G Q=>match ts with
 | [.int b,.int w]=>Q (zbB (.ask b w)) G
 | _=>False
abbrev s_ask:Stmt:=top 13
theorem sc_ask:FnScope ["ballot","wish"] ["ballot","wish"] (zac s_ask):=by walk_at "s"
theorem ok_ask{f:Addr}{fd:FuncData}(F:Fun K "ask" "ask" s_ask f fd) (aT:At K Z) (g_ASK:∃ t,mg "ASK"=some (.str "ask" t)):FOk Pg w K mg base 1 f fd ["ballot","wish"] (zhE Z):=by
 refine ok3 F sc_ask (λts G Q h=>?_) (λcdv A outer s H E hr=>?_)
 ·unfold zhE at h; split at h<;>first | rfl | exact h.elim
 ·refine⟨_,(zaC (zbg (qtup (qa (qgs1 g_ASK) (qa (qv 0) (qa (qv 1) qa0)))))),λts G Q h=>?_⟩
  unfold zhE at h
  split at h
  case h_2=>exact h.elim
  simp[zan,zaB,wOp,zas,wC,iI0,zad,wCB,zah,zat,zaj,zd0,zai]
  exact h
def zfs(Z:Cz):Sp3:=λts G Q=>match ts with
 | [.int b,.int v,.int w]=>Q (.tup [.str "vote",.int b,.int v,.int w]) G
 | _=>False
abbrev zjn:Stmt:=top 14
theorem sc_vote:FnScope ["ballot","voter","wish"] ["ballot","voter","wish"] (zac zjn):=by walk_at "s"
theorem ok_vote{f:Addr}{fd:FuncData}(F:Fun K "vote" "vote" zjn f fd) (aT:At K Z) (g_VOTE:∃ t,mg "VOTE"=some (.str "vote" t)):FOk Pg w K mg base 1 f fd ["ballot","voter","wish"] (zfs Z):=by
 refine ok3 F sc_vote (λts G Q h=>?_) (λcdv A outer s H E hr=>?_)
 ·unfold zfs at h; split at h<;>first | rfl | exact h.elim
 ·refine⟨_,(zaC (zbg (qtup (qa (qgs1 g_VOTE) (qa (qv 0) (qa (qv 1) (qa (qv 2) qa0))))))),λts G Q h=>?_⟩
  unfold zfs at h
  split at h
  case h_2=>exact h.elim
  simp[zan,zaB,wOp,zas,wC,iI0,zad,wCB,zah,zat,zaj,zd0,zai]
  exact h
def zec(Z:Cz):Sp3:=λts G Q=>match ts with
 | [.int b,.int n]=>0 < n/\Q (.int (b % n)) G
 | _=>False
abbrev zgY:Stmt:=top 21
theorem sc_owner:FnScope ["ballot","askers"] ["ballot","askers"] (zac zgY):=by walk_at "s"
theorem ok_owner{f:Addr}{fd:FuncData}(F:Fun K "owner" "owner" zgY f fd) (aT:At K Z) :FOk Pg w K mg base 1 f fd ["ballot","askers"] (zec Z):=by
 refine ok3 F sc_owner (λts G Q h=>?_) (λcdv A outer s H E hr=>?_)
 ·unfold zec at h; split at h<;>first | rfl | exact h.elim
 ·refine⟨_,(zaC (zbg (qmod (qv 0) (qv 1)))),λts G Q h=>?_⟩
  unfold zec at h
  split at h
  case h_2=>exact h.elim
  simp[zaB,wOp,zas,wC,iI,iI0,zad,wCB,zah,zat,zaj,zai]
  exact⟨h.1,h.2⟩
def zba(Z:Cz):Sp3:=λts G Q=>∃ p pr wr L t,∃ k:Nat,ts=[.ref p,.int k]/\G p=some (.ins Z.P (fP (.ref pr) wr))/\G pr=some (.lst L)/\L[k]?=some t/\Q t G
abbrev zaT:Stmt:=zav (top 15) 3
theorem zc2:FnScope ["self","k"] ["self","k"] (zac zaT):=by walk_at "s"
theorem zeR{f:Addr}{fd:FuncData}(F:Fun K "letter_at" "Pile.letter_at" zaT f fd) (aT:At K Z) (b_len:mg "len"=none):FOk Pg w K mg base 1 f fd ["self","k"] (zba Z):=by
 refine ok3 F zc2 (λts G Q h=>?_) (λcdv A outer s H E hr=>?_)
 ·obtain⟨p,pr,wr,L,t,k,rfl,_⟩:=h; rfl
 ·refine⟨_,(qss (zdX (PW.pt (qwor (qtlt (qv 1) zaA) (qw1o (qtge (qv 1) (zdw b_len (qa (zbW (qv 0)) qa0)))))) (zaC qnever) zar)
   (zaC (zbg (zdz hr (zbW (qv 0)) (qv 1))))),λts G Q h=>?_⟩
  obtain⟨p,pr,wr,L,t,k,rfl,hp,h1,ht,h⟩:=h
  obtain⟨hi,hi2⟩:=List.getElem?_eq_some_iff.mp ht
  have e1:¬ ((k:Int) < 0):=by lia
  have e2:¬ ((L.length:Int)<=(k:Int)):=by lia
  simp[zaG,zaY,zan,zaB,wOp,zas,wC,iI0,zad,wCB,zah,zat,zaX,zaF,ix3,ixA,zc7,zaj,wOr,zbC,zai,zbh,zbo,e1]
  refine zag hp zgD aT.row ?_
  simp[h1,e2]
  refine⟨hi,zag hp zgD aT.row ?_⟩
  simp[h1]
  have e1:atI L (k:Int)=some t:=zcT ht
  simpa [e1] using h
def za0(Z:Cz):Sp3:=λts G Q=>∃ (a:Addr) (v:Nat) (V:M.Voter) (b w:Int),ts=[.ref a,.int b]/\G a=some (.ins Z.V (fV (.int v) (oI V.promised) (oP V.voted))) /\
 match zfd (.prepare b) v V with
 | some (y,V')=>Q (zbB y) (updG G a (.ins Z.V (fV (.int v) (oI V'.promised) (oP V'.voted))))
 | none=>Q .non G
abbrev zaL:Stmt:=zav (top 25) 4
theorem zdI:FnScope ["self","ballot"] ["self","ballot"] (zac zaL):=by walk_at "s"
theorem zdL{f:Addr}{fd:FuncData}(F:Fun K "hear_prepare" "Voter.hear_prepare" zaL f fd) (aT:At K Z) (F_promise:zck Pg w K mg base 1 "promise" ["ballot","voter","last"] (zcZ Z)):FOk Pg w K mg base 2 f fd ["self","ballot"] (za0 Z):=by
 refine ok3 F zdI (λts G Q h=>?_) (λcdv A outer s H E hr=>?_)
 ·obtain⟨a,v,V,b,w,rfl,_⟩:=h; rfl
 ·refine⟨_,(qss (zdX (PW.pt (qwand (zjr (zbW (qv 0)) ziL) (qw1a (qtge (zbW (qv 0)) (qv 1))))) (zaC (zbg ziL)) zar)
   (qss (zay (qv 0) (qv 1))
   (zaC (zbg (zbf F_promise hr (qa (qv 1) (qa (zbW (qv 0)) (qa (zbW (qv 0)) qa0)))))))),λts G Q h=>?_⟩
  obtain⟨a,v,⟨pr,vo⟩,b,w,rfl,ha,h⟩:=h
  simp[zaG,zaY,zan,zaB,wOp,zas,wC,iI0,zad,wCB,zah,zat,zaj,zaZ,zaw,zdy,zgo,zd9,zb8,isN,zbC,zaq,zai]
  refine zag ha zet aT.bound ?_
  cases pr with
  | none =>
   simp[zfd,M.lt?,M.le?]at h
   simp[oI,isN]
   refine zam ha aT.bound rfl ?_
   simp[zaG,zaY,zan,zaB,wOp,zas,wC,iI0,zad,wCB,zah,zat,zaj,zaZ,zaw,zdy,zgo,zd9,zb8,isN,zbC,zaq,zai]
   refine zag zaa zes aT.vnumber ?_
   refine zag zaa zi1 aT.last ?_
   exact h
  | some p =>
   simp[oI,isN]
   refine zag ha zet aT.bound ?_
   simp only[zfd,M.lt?,M.le?]at h
   by_cases c:b<=p
   ·have c':¬ p < b:=by lia
    simp[c']at h
    simp[zaG,zaY,zan,zaB,wOp,zas,wC,iI0,zad,wCB,zah,zat,zaj,zaZ,zaw,zdy,zgo,zd9,zb8,isN,zbC,zaq,zai,oI,c]
    exact h
   ·have c':p < b:=by lia
    simp[c']at h
    simp[zaG,zaY,zan,zaB,wOp,zas,wC,iI0,zad,wCB,zah,zat,zaj,zaZ,zaw,zdy,zgo,zd9,zb8,isN,zbC,zaq,zai,oI,c]
    refine zam ha aT.bound rfl ?_
    simp[zaG,zaY,zan,zaB,wOp,zas,wC,iI0,zad,wCB,zah,zat,zaj,zaZ,zaw,zdy,zgo,zd9,zb8,isN,zbC,zaq,zai]
    refine zag zaa zes aT.vnumber ?_
    refine zag zaa zi1 aT.last ?_
    exact h
def zbD(Z:Cz):Sp3:=λts G Q=>∃ (a:Addr) (v:Nat) (V:M.Voter) (b w:Int),ts=[.ref a,.int b,.int w]/\G a=some (.ins Z.V (fV (.int v) (oI V.promised) (oP V.voted))) /\
 match zfd (.ask b w) v V with
 | some (y,V')=>Q (zbB y) (updG G a (.ins Z.V (fV (.int v) (oI V'.promised) (oP V'.voted))))
 | none=>Q .non G
abbrev zbl:Stmt:=zav (top 25) 5
theorem zeE:FnScope ["self","ballot","wish"] ["self","ballot","wish"] (zac zbl):=by walk_at "s"
theorem zeO{f:Addr}{fd:FuncData}(F:Fun K "hear_ask" "Voter.hear_ask" zbl f fd) (aT:At K Z) (F_vote:zck Pg w K mg base 1 "vote" ["ballot","voter","wish"] (zfs Z)):FOk Pg w K mg base 2 f fd ["self","ballot","wish"] (zbD Z):=by
 refine ok3 F zeE (λts G Q h=>?_) (λcdv A outer s H E hr=>?_)
 ·obtain⟨a,v,V,b,w,rfl,_⟩:=h; rfl
 ·refine⟨_,(qss (zdX (PW.pt (qwand (zjr (zbW (qv 0)) ziL) (qw1a (qtgt (zbW (qv 0)) (qv 1))))) (zaC (zbg ziL)) zar)
   (qss (zay (qv 0) (qv 1))
   (qss (zay (qv 0) (qtup (qa (qv 1) (qa (qv 2) qa0))))
   (zaC (zbg (zbf F_vote hr (qa (qv 1) (qa (zbW (qv 0)) (qa (qv 2) qa0))))))))),λts G Q h=>?_⟩
  obtain⟨a,v,⟨pr,vo⟩,b,w,rfl,ha,h⟩:=h
  simp[zaG,zaY,zan,zaB,wOp,zas,wC,iI0,zad,wCB,zah,zat,zaj,zaZ,zaw,zd0,zdy,zgo,zd9,zb8,isN,zbC,zaq,zai]
  refine zag ha zet aT.bound ?_
  cases pr with
  | none =>
   simp[zfd,M.lt?,M.le?]at h
   simp[oI,isN]
   refine zam ha aT.bound rfl ?_
   simp[zaG,zaY,zan,zaB,wOp,zas,wC,iI0,zad,wCB,zah,zat,zaj,zaZ,zaw,zd0,zdy,zgo,zd9,zb8,isN,zbC,zaq,zai]
   refine zam zaa aT.last rfl ?_
   rw[zb9]
   simp[zaG,zaY,zan,zaB,wOp,zas,wC,iI0,zad,wCB,zah,zat,zaj,zaZ,zaw,zd0,zdy,zgo,zd9,zb8,isN,zbC,zaq,zai]
   refine zag zaa zes aT.vnumber ?_
   exact h
  | some p =>
   simp[oI,isN]
   refine zag ha zet aT.bound ?_
   simp only[zfd,M.lt?,M.le?]at h
   by_cases c:b < p
   ·have c':¬ p<=b:=by lia
    simp[c']at h
    simp[zaG,zaY,zan,zaB,wOp,zas,wC,iI0,zad,wCB,zah,zat,zaj,zaZ,zaw,zd0,zdy,zgo,zd9,zb8,isN,zbC,zaq,zai,oI,c]
    exact h
   ·have c':p<=b:=by lia
    simp[c']at h
    simp[zaG,zaY,zan,zaB,wOp,zas,wC,iI0,zad,wCB,zah,zat,zaj,zaZ,zaw,zd0,zdy,zgo,zd9,zb8,isN,zbC,zaq,zai,oI,c]
    refine zam ha aT.bound rfl ?_
    simp[zaG,zaY,zan,zaB,wOp,zas,wC,iI0,zad,wCB,zah,zat,zaj,zaZ,zaw,zd0,zdy,zgo,zd9,zb8,isN,zbC,zaq,zai]
    refine zam zaa aT.last rfl ?_
    rw[zb9]
    simp[zaG,zaY,zan,zaB,wOp,zas,wC,iI0,zad,wCB,zah,zat,zaj,zaZ,zaw,zd0,zdy,zgo,zd9,zb8,isN,zbC,zaq,zai]
    refine zag zaa zes aT.vnumber ?_
    exact h
def zc9(Z:Cz):Sp3:=λts G Q=>∃ (a:Addr) (v:Nat) (V:M.Voter) (x:M.Let),ts=[.ref a,zbB x]/\G a=some (.ins Z.V (fV (.int v) (oI V.promised) (oP V.voted))) /\
 match zfd x v V with
 | some (y,V')=>Q (zbB y) (updG G a (.ins Z.V (fV (.int v) (oI V'.promised) (oP V'.voted))))
 | none=>Q .non G
abbrev zcD:Stmt:=zav (top 25) 3
theorem zgU:FnScope ["self","letter"] ["self","letter"] (zac zcD):=by walk_at "s"
theorem zg9{f:Addr}{fd:FuncData}(F:Fun K "hear" "Voter.hear" zcD f fd) (aT:At K Z) (g_ASK:∃ t,mg "ASK"=some (.str "ask" t)) (g_PREPARE:∃ t,mg "PREPARE"=some (.str "prepare" t)) (M_Voter_hear_ask:za6 Pg w K mg base 2 Z.V "hear_ask" ["self","ballot","wish"] (zbD Z)) (M_Voter_hear_prepare:za6 Pg w K mg base 2 Z.V "hear_prepare" ["self","ballot"] (za0 Z)):FOk Pg w K mg base 3 f fd ["self","letter"] (zc9 Z):=by
 refine ok3 F zgU (λts G Q h=>?_) (λcdv A outer s H E hr=>?_)
 ·obtain⟨a,v,V,x,rfl,_⟩:=h; rfl
 ·refine⟨_,(qss (zdX (zhx hr (zdz hr (qv 1) zaA) (qgs1 g_PREPARE)) (zaC (zbg (zb2 (qv 0) M_Voter_hear_prepare hr (qa (zdz hr (qv 1) zaA) qa0)))) zar)
   (qss (zdX (zhx hr (zdz hr (qv 1) zaA) (qgs1 g_ASK)) (zaC (zbg (zb2 (qv 0) M_Voter_hear_ask hr (qa (zdz hr (qv 1) zaA) (qa (zdz hr (qv 1) zaA) qa0))))) zar)
   (zaC (zbg ziL)))),λts G Q h=>?_⟩
  obtain⟨a,v,V,x,rfl,ha,h⟩:=h
  cases x with
  | prepare b =>
   simp[zaG,zaY,zan,zaB,wOp,zas,wC,iI0,zad,wCB,zah,zat,zaF,ix3,ixA,zc7,zaj,zaW,zai,zbo,zbB,wD,toD,ok1,ok2,zhz,ok4,at0,at1,at2]
   refine zaf ha rfl ?_
   exact⟨a,v,V,b,0,rfl,ha,h⟩
  | ask b w =>
   simp[zaG,zaY,zan,zaB,wOp,zas,wC,iI0,zad,wCB,zah,zat,zaF,ix3,ixA,zc7,zaj,zaW,zai,zbo,zbB,wD,toD,ok1,ok2,zhz,ok4,at0,at1,at2]
   refine zaf ha rfl ?_
   exact⟨a,v,V,b,w,rfl,ha,h⟩
  | promise b u l =>
   simp[zaG,zaY,zan,zaB,wOp,zas,wC,iI0,zad,wCB,zah,zat,zaF,ix3,ixA,zc7,zaj,zaW,zai,zbo,zbB,wD,toD,ok1,ok2,zhz,ok4,at0,at1,at2]
   exact h
  | vote b u w =>
   simp[zaG,zaY,zan,zaB,wOp,zas,wC,iI0,zad,wCB,zah,zat,zaF,ix3,ixA,zc7,zaj,zaW,zai,zbo,zbB,wD,toD,ok1,ok2,zhz,ok4,at0,at1,at2]
   exact h
def zbe(Z:Cz):Sp3:=λts G Q=>∃ a nu st w ma ba fr nt ak l,ts=[.ref a]/\G a=some (.ins Z.A (fA nu st (.int w) ma ba fr (.ref nt) ak))/\G nt=some (zd4 l)/\l.length<=1000/\∀ G',Ext G G'->Q (.int (P.wishToAsk w l)) G'
abbrev zaD:Stmt:=zav (top 23) 5
theorem zb5:FnScope ["self","lasts"] ["self"] (zac zaD):=by walk_at "s"
theorem zdZ{f:Addr}{fd:FuncData}(F:Fun K "wish_to_ask" "Asker.wish_to_ask" zaD f fd) (aT:At K Z) (b_len:mg "len"=none) (b_max:mg "max"=none):FOk Pg w K mg base 1 f fd ["self"] (zbe Z):=by
 refine ok3 F zb5 (λts G Q h=>?_) (λcdv A outer s H E hr=>?_)
 ·obtain⟨a,nu,st,w,ma,ba,fr,nt,ak,l,rfl,_⟩:=h; rfl
 ·refine⟨_,(qss (qthaw (qsetcomp 1 ["last"] [none] zb5.nd (zgm (oN:=["self","lasts"]) (osc:=zac zaD) rfl rfl (by decide +kernel)) (qi_vals (zbW (qv 0))) (λ_ _ _ _=>(zbV 0 (show List.Nodup (["last"]:List Str)by decide +kernel))) (λ_ _ _ _=>(qifs1 (zjr (qv 0) ziL))) (λ_ _ _ _=>(qv 0))))
   (qss (zdX (zhx hr (zdw b_len (qa (qv 1) qa0)) zaA) (zaC (zbg (zbW (qv 0)))) zar)
   (zaC (zbg (zdz hr (qmaxL hr b_max (qa (qv 1) qa0)) zaA))))),λts G Q h=>?_⟩
  obtain⟨a,nu,st,w,ma,ba,fr,nt,ak,l,rfl,ha,h1,hl,h⟩:=h
  simp[zaG,zaY,zan,zaB,wOp,zas,wC,iI0,zad,wCB,zah,zat,zaX,zaF,ix3,ixA,zc7,zaj,zaZ,zcM,zdy,zd9,zb8,isN,zbC,zaH,zai,zdq,zbo]
  refine .inl ⟨nt,_,h1,?_⟩
  simp[zaG,zaY,zan,zaB,wOp,zas,wC,iI0,zad,wCB,zah,zat,zaX,zaF,ix3,ixA,zc7,zaj,zaZ,zcM,zdy,zd9,zb8,isN,zbC,zaH,zai,zdq,zbo,zbX,iVals]
  refine zag ha zfm aT.noted ?_
  simp[h1,zd4]
  intro ob
  refine⟨by lia,?_⟩
  have et:List.map ((λx:Key×T=>x.snd)∘λp:Nat×Option (Int×Int)=>(Sum.inl (p.fst:Int),oP p.snd)) l=l.map λp=>oP p.2:=rfl
  rw[et]
  refine zdo (λt=>!isN t) id zaa _ [] (λx hx R k=>k _ (λR' r=>by simpa [zaG,zaY,zan,zaB,zgL,wOp,zas,wC,iI,iI0,zad,wCB,zah,zat,zaX,zaF,ix3,ixA,zc7,zaj,zaZ,zaw,zd0,zcM,zhw,zdy,zgo,wOr,zd9,ziA,wOrV,zix,ziy,wIsN,zb8,isN,zbC,zaq,zaW,zaz,zcL,zbA,zis,zaH,ziv,zcN,zgP,zbs,iR1,iR2,zai,wIsi,isInt,zfN,zd6,mx3,mn3,zcX,wP0,wP1,zb4,zit,app3,ze7,zdq,zeq,zbh,hTup,zfe,hNil,ziz,zez,ziw,zbo] using r) λ_ R' r=>by simpa [zaG,zaY,zan,zaB,zgL,wOp,zas,wC,iI,iI0,zad,wCB,zah,zat,zaX,zaF,ix3,ixA,zc7,zaj,zaZ,zaw,zd0,zcM,zhw,zdy,zgo,wOr,zd9,ziA,wOrV,zix,ziy,wIsN,zb8,isN,zbC,zaq,zaW,zaz,zcL,zbA,zis,zaH,ziv,zcN,zgP,zbs,iR1,iR2,zai,wIsi,isInt,zfN,zd6,mx3,mn3,zcX,wP0,wP1,zb4,zit,app3,ze7,zdq,zeq,zbh,hTup,zfe,hNil,ziz,zez,ziw,zbo] using r) ?_
  rw[List.nil_append,lasts_T,List.map_id]
  intro d hd
  have nd:d≠nt:=by rintro rfl; rw[zaa]at hd; cases hd
  rw[zab nd]at hd
  refine⟨ob,by rw[zab (Ne.symm nd)]; exact zaa,?_⟩
  have x1:Ext G (updG (updG (updG G nt (.dF ob (l.map λp=>(Sum.inl (p.1:Int),oP p.2)))) d (.lst ((P.lasts l).map pT))) nt (zd4 l)):=λb o e=>by
   by_cases eb:b=nt
   ·subst eb; rw[zaa,<- h1,e]
   ·rw[zab eb,zab (neG e hd),zab eb]; exact e
  have hx:=h _ x1
  have xa:=x1 _ _ ha
  have gd:updG (updG (updG G nt (.dF ob (l.map λp=>(Sum.inl (p.1:Int),oP p.2)))) d (.lst ((P.lasts l).map pT))) nt (zd4 l) d=some (.lst ((P.lasts l).map pT)):=by rw[zab nd]; exact zaa
  show zaG _ _ _ _ (updG _ nt (zd4 l))
  generalize updG (updG (updG G nt (.dF ob (l.map λp=>(Sum.inl (p.1:Int),oP p.2)))) d (.lst ((P.lasts l).map pT))) nt (zd4 l)=G3 at *
  simp[zaG,zaY,zan,zaB,wOp,zas,wC,iI0,zad,wCB,zah,zat,zaX,zaF,ix3,ixA,zc7,zaj,zaZ,zcM,zdy,zd9,zb8,isN,zbC,zaH,zai,zdq,zbo,gd,wD,toD,eqvI]
  cases el:P.lasts l with
  | nil =>
   rw[wish_nil el]at hx
   simp
   exact zag xa fA_wish aT.wish hx
  | cons q r =>
   rw[wish_cons el]at hx
   have n0:¬ ((r.length:Int)+1=0):=by lia
   simp[n0,mxL3,gd,el]
   refine⟨q.1,q.2,r,⟨rfl,rfl⟩,?_⟩
   simpa [zaG,zaY,zan,zaB,zgL,wOp,zas,wC,iI,iI0,zad,wCB,zah,zat,zaX,zaF,ix3,ixA,zc7,zaj,zaZ,zaw,zd0,zcM,zhw,zdy,zgo,wOr,zd9,ziA,wOrV,zix,ziy,wIsN,zb8,isN,zbC,zaq,zaW,zaz,zcL,zbA,zis,zaH,ziv,zcN,zgP,zbs,iR1,iR2,zai,wIsi,isInt,zfN,zd6,mx3,mn3,zcX,wP0,wP1,zb4,zit,app3,ze7,zdq,zeq,zbh,hTup,zfe,hNil,ziz,zez,ziw,zbo,pT,at1] using hx
def zdc(Z:Cz):Sp3:=λts G Q=>∃ (a nt ak:Addr) (i n w fr:T) (wi:Int) (m:Nat) (bal:Option Int) (noted:List (Nat×Option (Int×Int))) (asked:List (Int×List Nat)) (b:Int) (v:Nat) (l:Option (Int×Int)),ts=[.ref a,zbB (.promise b v l)] /\
 G a=some (.ins Z.A (fA i n (.int wi) (.int m) (oI bal) fr (.ref nt) (.ref ak)))/\G nt=some (zd4 noted)/\G ak=some (akO asked)/\nt≠ak/\(bal=some b->noted.length < 60)/\asked.length<=1000000 /\
 if bal=some b/\P.getL asked b=none then
  (if m < 2 * (P.putL noted v l).length then ∀ G',Ext (updG (updG G nt (zd4 (P.putL noted v l))) ak (akO (P.putL asked b (P.sortN ((P.putL noted v l).map (·.1)))))) G'->Q (zbB (.ask b (P.wishToAsk wi (P.putL noted v l)))) G'
  else Q .non (updG G nt (zd4 (P.putL noted v l))))
 else Q .non G
abbrev zcF:Stmt:=zav (top 23) 4
theorem zgW:FnScope ["self","letter"] ["self","letter"] (zac zcF):=by walk_at "s"
theorem zhe{f:Addr}{fd:FuncData}(F:Fun K "hear" "Asker.hear" zcF f fd) (aT:At K Z) (b_len:mg "len"=none) (b_sorted:mg "sorted"=none) (b_tuple:mg "tuple"=none) (F_ask:zck Pg w K mg base 1 "ask" ["ballot","wish"] (zhE Z)) (F_more_than_half:zck Pg w K mg base 1 "more_than_half" ["some","many"] (zau Z)) (M_Asker_wish_to_ask:za6 Pg w K mg base 1 Z.A "wish_to_ask" ["self"] (zbe Z)):FOk Pg w K mg base 2 f fd ["self","letter"] (zdc Z):=by
 refine ok3 F zgW (λts G Q h=>?_) (λcdv A outer s H E hr=>?_)
 ·obtain⟨a,nt,ak,i,n,w,fr,wi,m,bal,noted,asked,b,v,l,rfl,_⟩:=h; rfl
 ·refine⟨_,(qss (zdX (PW.pt (qwor (qtne hr (zdz hr (qv 1) zaA) (zbW (qv 0))) (qw1o (qtin hr (zdz hr (qv 1) zaA) (zbW (qv 0)))))) (zaC (zbg ziL)) zar)
   (qss (zjs hr (zdz hr (qv 1) zaA) (zbW (qv 0)) (zdz hr (qv 1) zaA))
   (qss (zdX (qtnot (qtru (zbf F_more_than_half hr (qa (zdw b_len (qa (zbW (qv 0)) qa0)) (qa (zbW (qv 0)) qa0))))) (zaC (zbg ziL)) zar)
   (qss (zjs hr (zg0 b_tuple (qa (qsorted b_sorted (qa (zbW (qv 0)) qa0)) qa0)) (zbW (qv 0)) (zbW (qv 0)))
   (zaC (zbg (zbf F_ask hr (qa (zbW (qv 0)) (qa (zb7 (qv 0) M_Asker_wish_to_ask hr) qa0))))))))),λts G Q h=>?_⟩
  obtain⟨a,nt,ak,i,n,w',fr,wi,m,bal,noted,asked,b,v,l,rfl,ha,h1,h2,hne,hl,hk,h⟩:=h
  have na:a≠nt:=neG2 ha h1 (by simp[zd4])
  have nk:a≠ak:=neG2 ha h2 (by simp[akO])
  have ln:=zjv noted v l
  simp[zaG,zaY,zan,zaB,wOp,zas,wC,iI0,zad,wCB,zah,zat,zaX,zaF,ix3,ixA,zc7,zaj,zaZ,zaw,zhw,zdy,wOr,zd9,zbC,zaz,zis,ziv,zgP,zbs,zai,zbo,zbB,at1]
  refine zag ha zc4 aT.ballot ?_
  simp only[wD,toD,zjl,eqv_oD]
  by_cases c1:bal=some b
  ·simp[c1]
   refine zag ha zjM aT.asked ?_
   simp only[wInA,ak_in h2,ak_get h2]
   cases e2:P.getL asked b with
   | some vs =>
    simp[c1,e2]at h
    simpa using h
   | none =>
    have hl':=hl c1
    simp only[c1,e2,and_self,if_true]at h
    simp only[Option.map_none,Option.isSome_none,id,Bool.false_eq_true,if_false,at2,at3]
    refine zag ha zfm aT.noted ?_
    refine not_set h1 (by lia) ?_
    generalize hN:P.putL noted v l=N at *
    have ha1:updG G nt (zd4 N) a=some (.ins Z.A (fA i n (.int wi) (.int m) (oI bal) fr (.ref nt) (.ref ak))):=by rw[zab na]; exact ha
    have h21:updG G nt (zd4 N) ak=some (akO asked):=by rw[zab (Ne.symm hne)]; exact h2
    have h11:updG G nt (zd4 N) nt=some (zd4 N):=zaa
    generalize updG G nt (zd4 N)=G1 at *
    refine zag ha1 zfm aT.noted ?_
    simp only[h11,zd4,List.length_map]
    refine zag ha1 fA_many aT.many ?_
    simp only[zau]
    by_cases c3:m < 2 * N.length
    ·have c3':(m:Int) < 2 * (N.length:Int):=by lia
     simp only[c3,if_true]at h
     simp only[c3',decide_true,if_true]
     refine zag ha1 zfm aT.noted ?_
     simp only[srt3,h11,zd4,not_keys]
     refine⟨by simp; lia,λp hp=>?_⟩
     have np:p≠a:=Ne.symm (neG ha1 hp)
     have np2:p≠ak:=Ne.symm (neG h21 hp)
     have np3:p≠nt:=Ne.symm (neG h11 hp)
     rw[sortI_N]
     have ha2:∀ u,updG G1 p u a=some (.ins Z.A (fA i n (.int wi) (.int m) (oI bal) fr (.ref nt) (.ref ak))):=λu=>by rw[zab (Ne.symm np)]; exact ha1
     simp only[zaa]
     refine zag (ha2 _) zjM aT.asked ?_
     refine zag (ha2 _) zc4 aT.ballot ?_
     have ev:T.tup (((P.sortN (N.map (·.1))).map λ(v:Nat)=>(v:Int)).map T.int)=vsT (P.sortN (N.map (·.1))):=by rw[List.map_map]; rfl
     rw[ev,c1]
     refine ak_set (by rw[zab (Ne.symm np2)]; exact h21) hk ?_
     have ha3:∀ u t,updG (updG G1 p u) ak t a=some (.ins Z.A (fA i n (.int wi) (.int m) (oI bal) fr (.ref nt) (.ref ak))):=λu t=>by rw[zab nk]; exact ha2 u
     have h13:∀ u t,updG (updG G1 p u) ak t nt=some (zd4 N):=λu t=>by rw[zab hne,zab (Ne.symm np3)]; exact h11
     refine zag (ha3 _ _) zc4 aT.ballot ?_
     refine zaf (ha3 _ _) rfl ?_
     refine⟨_,_,_,_,_,_,_,_,_,_,rfl,ha3 _ _,h13 _ _,by lia,λG' x=>?_⟩
     rw[c1]
     show Q (zbB (.ask b (P.wishToAsk wi N))) G'
     refine h G' λc o ec=>x c o ?_
     by_cases e3:c=ak
     ·subst e3; rw[zaa]at ec ⊢; exact ec
     ·rw[zab e3]at ec ⊢
      rw[zab (neG ec hp)]; exact ec
    ·have c3':¬ (m:Int) < 2 * (N.length:Int):=by lia
     simp only[c3,if_false]at h
     simp[c3']
     exact h
  ·have c2:¬ (bal=some b/\P.getL asked b=none):=λz=>c1 z.1
   rw[if_neg c2]at h
   simp[c1]
   exact h
theorem zfV{G1:Gp}{A:Adr}{S1:P.R}{y:M.Let}{Q:VK3}(aT:At K Z)(R1:RoomAt Z G1 A S1)(hl:S1.letters.length<=1000000)(h:∀ G',RoomAt Z G' A (S1.write y)->Fr G1 A S1 G' A (S1.write y)->Q .non G') :
  if isN (zbB y)=true then Q .non G1 else fldAt K (.ref (A .r)) G1 "pile" λx G1=>zg6 x Z.P "write" G1 (zbt Z [x,zbB y] G1 λx G1=>Q .non G1):=by
 have e:isN (zbB y)=false:=by cases y<;>rfl
 rw[e,if_neg Bool.false_ne_true]
 refine zag (R1.at' .r trivial) zdN aT.pile ?_
 refine zaf (R1.at' .p trivial) rfl ?_
 refine⟨_,_,_,_,_,rfl,R1.at' .p trivial,R1.at' .pr trivial,R1.at' .pw trivial,R1.ne (s:=.pr) (t:=.pw) trivial trivial (by simp),hl,?_⟩
 obtain⟨R2,F2⟩:=R1.wrote y rfl
 exact h _ R2 F2
theorem own_eq{n:Nat}(h:0 < n)(b:Int):b % (n:Int)=(M.own n b:Int):=by
 unfold M.own
 have:=Int.emod_nonneg b (b:=(n:Int)) (by lia)
 lia
def zcx(Z:Cz):Sp3:=λts G Q=>∃ (A:Adr) (S:P.R) (x:M.Let) (t:T) (v:Nat),ts=[.ref (A .r),zbB x,t]/\RoomAt Z G A S/\Fit S/\(forV x->v < S.many/\t=.ref (A (.vs v))) /\
 ∀ G',RoomAt Z G' A (S.hear x v)->Fr G A S G' A (S.hear x v)->Q .non G'
abbrev zdi:Stmt:=zav (top 27) 14
theorem zcB:FnScope ["self","letter","voter","answer"] ["self","letter","voter"] (zac zdi):=by walk_at "s"
theorem zhX{f:Addr}{fd:FuncData}(F:Fun K "come" "Room.come" zdi f fd) (aT:At K Z) (b_len:mg "len"=none) (g_PROMISE:∃ t,mg "PROMISE"=some (.str "promise" t)) (g_VOTE:∃ t,mg "VOTE"=some (.str "vote" t)) (F_owner:zck Pg w K mg base 1 "owner" ["ballot","askers"] (zec Z)) (M_Asker_hear:za6 Pg w K mg base 2 Z.A "hear" ["self","letter"] (zdc Z)) (M_Pile_write:za6 Pg w K mg base 1 Z.P "write" ["self","letter"] (zbt Z)) (M_Voter_hear:za6 Pg w K mg base 3 Z.V "hear" ["self","letter"] (zc9 Z)):FOk Pg w K mg base 4 f fd ["self","letter","voter"] (zcx Z):=by
 refine ok3 F zcB (λts G Q h=>?_) (λcdv A outer s H E hr=>?_)
 ·obtain⟨A,S,x,t,v,rfl,_⟩:=h; rfl
 ·refine⟨_,(qss (zeH 3 zcB.nd ziL)
   (qss (zdX (zhx hr (zdz hr (qv 1) zaA) (qgs1 g_PROMISE)) (zaC (zeH 3 zcB.nd (zb2 (zdz hr (zbW (qv 0)) (zbf (F_owner.mono (by decide:1<=3)) hr (qa (zdz hr (qv 1) zaA) (qa (zdw b_len (qa (zbW (qv 0)) qa0)) qa0)))) (M_Asker_hear.mono (by decide:2<=3)) hr (qa (qv 1) qa0)))) (zaC (zdX (qtne hr (zdz hr (qv 1) zaA) (qgs1 g_VOTE)) (zaC (zeH 3 zcB.nd (zb2 (qv 2) M_Voter_hear hr (qa (qv 1) qa0)))) zar)))
   (zaC (zdX (zjr (qv 3) ziL) (zaC (zeJ (zb2 (zbW (qv 0)) (M_Pile_write.mono (by decide:1<=3)) hr (qa (qv 3) qa0)))) zar)))),λts G Q h=>?_⟩
  obtain⟨A,S,x,t,v,rfl,R,ft,hv,h⟩:=h
  simp[zaG,zaY,zan,wOp,zas,wC,iI0,zad,wCB,zah,zat,zaX,zaj,zaZ,zaw,zdy,zd9,zb8,isN,zbC,zaW,zbA,zai,zbo]
  cases x with
  | prepare b =>
   obtain⟨hv',rfl⟩:=hv trivial
   refine zax (i:=0) rfl ?_
   simp[wD,toD,zia,ok1,ok2,zhz,ok4,s12,s13,s14,s23,s24,s34,s12.symm,s13.symm,s14.symm,s23.symm,s24.symm,s34.symm]
   refine zax (i:=0) rfl ?_
   simp[wD,toD,zia,ok1,ok2,zhz,ok4,s12,s13,s14,s23,s24,s34,s12.symm,s13.symm,s14.symm,s23.symm,s24.symm,s34.symm]
   refine zaf (R.at' (.vs v) hv') rfl ?_
   refine⟨_,v,S.voters v,.prepare b,rfl,R.at' (.vs v) hv',?_⟩
   rw[zh8 (x:=.prepare b) trivial]at h
   cases eh:zfd (.prepare b) v (S.voters v)with
   | none =>
    simp only[eh]at h
    simp
    exact h G R Fr.refl
   | some q =>
    obtain⟨y,V'⟩:=q
    simp only[eh]at h
    obtain⟨R1,F1⟩:=R.setV hv' V'
    exact zfV aT R1 ft.ln λG' R2 F2=>h G' R2 (F1.trans F2)
  | ask b w =>
   obtain⟨hv',rfl⟩:=hv trivial
   refine zax (i:=0) rfl ?_
   simp[wD,toD,zia,ok1,ok2,zhz,ok4,s12,s13,s14,s23,s24,s34,s12.symm,s13.symm,s14.symm,s23.symm,s24.symm,s34.symm]
   refine zax (i:=0) rfl ?_
   simp[wD,toD,zia,ok1,ok2,zhz,ok4,s12,s13,s14,s23,s24,s34,s12.symm,s13.symm,s14.symm,s23.symm,s24.symm,s34.symm]
   refine zaf (R.at' (.vs v) hv') rfl ?_
   refine⟨_,v,S.voters v,.ask b w,rfl,R.at' (.vs v) hv',?_⟩
   rw[zh8 (x:=.ask b w) trivial]at h
   cases eh:zfd (.ask b w) v (S.voters v)with
   | none =>
    simp only[eh]at h
    simp
    exact h G R Fr.refl
   | some q =>
    obtain⟨y,V'⟩:=q
    simp only[eh]at h
    obtain⟨R1,F1⟩:=R.setV hv' V'
    exact zfV aT R1 ft.ln λG' R2 F2=>h G' R2 (F1.trans F2)
  | promise b u l =>
   have ho:=own_eq ft.n0 b
   have hlt:=P.own_lt (b:=b) ft.n0
   refine zax (i:=0) rfl ?_
   simp[wD,toD,zia,ok1,ok2,zhz,ok4,s12,s13,s14,s23,s24,s34,s12.symm,s13.symm,s14.symm,s23.symm,s24.symm,s34.symm]
   refine zag (R.at' .r trivial) zdO aT.askers ?_
   refine zax (i:=1) rfl ?_
   refine zag (R.at' .r trivial) zdO aT.askers ?_
   simp[R.at' .la trivial,obj]
   refine⟨by have:=ft.n0; lia,?_⟩
   rw[ho]
   refine ixA_lst (R.at' .la trivial) (by simp[hlt]; rfl) ?_
   refine zaf (R.at' (.as _) hlt) rfl ?_
   refine⟨_,_,_,_,_,.non,_,_,_,_,_,_,b,u,l,rfl,R.at' (.as _) hlt,R.at' (.nt _) hlt,R.at' (.ak _) hlt,R.ne (s:=.nt _) (t:=.ak _) hlt hlt (by simp),λz=>ft.nt _ b z,ft.ak _,?_⟩
   simp only[P.R.hear,P.R.note]at h
   by_cases c1:(S.askers (M.own S.wishes.length b)).ballot=some b/\P.getL (S.askers (M.own S.wishes.length b)).asked b=none
   ·rw[if_pos c1]at h ⊢
    obtain⟨R1,F1⟩:=R.noted hlt (P.putL (S.askers (M.own S.wishes.length b)).noted u l)
    by_cases c2:S.many < 2 * (P.putL (S.askers (M.own S.wishes.length b)).noted u l).length
    ·rw[if_pos c2]at h ⊢
     obtain⟨R2,F2⟩:=R1.asked hlt (P.putL (S.askers (M.own S.wishes.length b)).asked b (P.sortN ((P.putL (S.askers (M.own S.wishes.length b)).noted u l).map (·.1))))
     rw[setA_at,setA_setA]at R2 F2
     intro G3 x3
     have R3:=R2.ext x3
     exact zfV aT R3 ft.ln λG' R4 F4=>h G' R4 ((F1.trans F2).trans ((Fr.ext x3).trans F4))
    ·rw[if_neg c2]at h ⊢
     simp
     exact h _ R1 F1
   ·rw[if_neg c1]at h ⊢
    simp
    exact h G R Fr.refl
  | vote b u w =>
   refine zax (i:=0) rfl ?_
   simp[wD,toD,zia,ok1,ok2,zhz,ok4,s12,s13,s14,s23,s24,s34,s12.symm,s13.symm,s14.symm,s23.symm,s24.symm,s34.symm]
   refine zax (i:=0) rfl ?_
   simp[wD,toD,zia,ok1,ok2,zhz,ok4,s12,s13,s14,s23,s24,s34,s12.symm,s13.symm,s14.symm,s23.symm,s24.symm,s34.symm]
   exact h G R Fr.refl
def zdb(Z:Cz):Sp3:=λts G Q=>∃ (A:Adr) (S:P.R) (k v:Nat),ts=[.ref (A .r),.int k,.int v]/\RoomAt Z G A S/\Fit S/\k < S.letters.length/\v < S.many /\
 ∀ G',RoomAt Z G' A (S.bring k v)->Fr G A S G' A (S.bring k v)->Q .non G'
abbrev zbq:Stmt:=zav (top 27) 4
theorem zbc:FnScope ["self","k","voter","letter"] ["self","k","voter"] (zac zbq):=by walk_at "s"
theorem zhb{f:Addr}{fd:FuncData}(F:Fun K "bring" "Room.bring" zbq f fd) (aT:At K Z) (M_Pile_letter_at:za6 Pg w K mg base 1 Z.P "letter_at" ["self","k"] (zba Z)) (M_Room_come:za6 Pg w K mg base 4 Z.R "come" ["self","letter","voter"] (zcx Z)) (M_Room_voter_at:za6 Pg w K mg base 1 Z.R "voter_at" ["self","voter"] (zaQ Z)):FOk Pg w K mg base 5 f fd ["self","k","voter"] (zdb Z):=by
 refine ok3 F zbc (λts G Q h=>?_) (λcdv A outer s H E hr=>?_)
 ·obtain⟨A,S,k,v,rfl,_⟩:=h; rfl
 ·refine⟨_,(qss (zeH 3 zbc.nd (zb2 (zbW (qv 0)) (M_Pile_letter_at.mono (by decide:1<=4)) hr (qa (qv 1) qa0)))
   (zaC (zeJ (zb2 (qv 0) M_Room_come hr (qa (qv 3) (qa (zb2 (qv 0) (M_Room_voter_at.mono (by decide:1<=4)) hr (qa (qv 2) qa0)) qa0)))))),λts G Q h=>?_⟩
  obtain⟨A,S,k,v,rfl,R,ft,hk,hv,h⟩:=h
  have el:S.letters[k]?=some S.letters[k]:=lGe hk
  have eb:S.bring k v=S.hear S.letters[k] v:=by unfold P.R.bring; rw[el]
  rw[eb]at h
  simp[zaG,wOp,zas,wC,iI0,zad,wCB,zah,zat,zaj,zaZ,zbC,zaW,zbA,zai]
  refine zag (R.at' .r trivial) zdN aT.pile ?_
  refine zaf (R.at' .p trivial) rfl ?_
  refine⟨_,_,_,_,zbB S.letters[k],k,rfl,R.at' .p trivial,R.at' .pr trivial,by rw[List.getElem?_map,el]; rfl,?_⟩
  refine zaf (R.at' .r trivial) rfl ?_
  refine zaf (R.at' .r trivial) rfl ?_
  refine⟨_,_,_,_,_,_,.ref (A (.vs v)),v,rfl,R.at' .r trivial,R.at' .lv trivial,by simp[hv],?_⟩
  exact⟨A,S,S.letters[k],_,v,rfl,R,ft,λ_=>⟨hv,rfl⟩,h⟩
def zcn(Z:Cz):Sp3:=λts G Q=>∃ (L:List M.Let) (m:Nat),ts=[.tup (L.map zbB),.int m]/\L.length<=100000/\(P.won L m).length < 64/\∀ G',Ext G G'->Q (.tup ((zbF (P.won L m)).map pT)) G'
abbrev zbi:Stmt:=top 18
theorem zbv:FnScope ["letters","many","counts","letter","pair"] ["letters","many"] (zac zbi):=by walk_at "s"
theorem zfy{f:Addr}{fd:FuncData}(F:Fun K "chosen_pairs" "chosen_pairs" zbi f fd) (aT:At K Z) (b_sorted:mg "sorted"=none) (b_tuple:mg "tuple"=none) (g_VOTE:∃ t,mg "VOTE"=some (.str "vote" t)) (F_more_than_half:zck Pg w K mg base 1 "more_than_half" ["some","many"] (zau Z)):FOk Pg w K mg base 2 f fd ["letters","many"] (zcn Z):=by
 refine ok3 F zbv (λts G Q h=>?_) (λcdv A outer s H E hr=>?_)
 ·obtain⟨L,m,rfl,_⟩:=h; rfl
 ·refine⟨_,(qss (zeH 2 zbv.nd qdnew)
   (qss (qfor (zgu (qv 0)) (zbV 3 zbv.nd) (zaC (zdX (zhx hr (zdz hr (qv 3) zaA) (qgs1 g_VOTE)) (qss (zeH 4 zbv.nd (qtup (qa (zdz hr (qv 3) zaA) (qa (zdz hr (qv 3) zaA) qa0))))
   (zaC (zjs hr (qadd (qget2 hr (qv 2) (qv 4) zaA) zaA) (qv 2) (qv 4)))) zar)))
   (zaC (qthaw (zbg (zg0 b_tuple (qa (qsortedP b_sorted (qa (zg1 ["pair","many","counts"] [none,some 1,some 2] (zgm (oN:=["letters","many","counts","letter","pair"]) (osc:=zac zbi) rfl rfl (by decide +kernel)) (qi_dct (qv 2)) (λ_ _ _ _=>(zbV 0 (show List.Nodup (["pair","many","counts"]:List Str)by decide +kernel))) (λ_ _ _ _=>(qifs1 (qtru (zbf F_more_than_half hr (qa (zdz hr (qv 2) (qv 0)) (qa (qv 1) qa0)))))) (λ_ _ _ _=>(qv 0))) qa0)) qa0))))))),λts G Q h=>?_⟩
  obtain⟨L,m,rfl,hL,h64,h⟩:=h
  simp[zaG,zaY,zan,zaB,wOp,zas,wC,iI0,zad,wCB,zah,zat,zaj,zaZ,zaw,zd0,zcM,zhw,zdy,zis,zaH,ziv,zcN,zgP,zbs,zai,zdq,zeq,zez,zbX]
  intro d hd
  refine zdm (J:=λr τ G1=>∃ L1 L2 o3 o4,L=L1++L2/\r=L2.map zbB/\τ=[some (.tup (L.map zbB)),some (.int m),some (.ref d),o3,o4]/\G1=updG G d (cO (P.counts L1))) (λr τ G1 j=>trivial) (λτ G1 j=>?_) (λx r τ G1 N hN j=>?_) _ _ _ ⟨[],L,_,_,rfl,rfl,rfl,rfl⟩
  ·obtain⟨L1,L2,o3,o4,eL,er,rfl,rfl⟩:=j
   have e2:L2=[]:=by simpa using er.symm
   subst e2
   rw[List.append_nil]at eL
   subst eL
   cases hcn:P.counts L with
   | nil =>
    have hw:P.won L m=[]:=by simp[P.won,hcn]
    rw[hw]at h
    refine .inl ⟨d,[],zaa,?_⟩
    simp[zaG,zaY,zan,zaB,wOp,zas,wC,iI0,zad,wCB,zah,zat,zaF,ix3,ixA,zc7,zaj,zaZ,zaw,zd0,zcM,zhw,zdy,zis,zaH,ziv,zcN,zgP,zbs,zai,zdq,zeq,zez,ziw,zbo,zbX,iDct,zaa,zfU,zdq,cO]
    intro ob l hl
    rw[zb9]at hl ⊢
    have n1:l≠d:=by rintro rfl; rw[zaa]at hl; cases hl
    rw[zab n1]at hl
    simp only[srtP3,zaa]
    refine⟨[],rfl,by simp,by decide,λq hq=>?_⟩
    have n2:q≠l:=by rintro rfl; rw[zaa]at hq; cases hq
    rw[zab n2]at hq
    have n3:q≠d:=by rintro rfl; rw[zaa]at hq; cases hq
    rw[zab n3]at hq
    try simp only[zaa]
    refine⟨ob,by rw[zab (Ne.symm n3),zab (Ne.symm n1)]; exact zaa,?_⟩
    refine h _ λa o e=>?_
    have e1:=neG e hd
    rw[zab e1,zab (neG e hq),zab (neG e hl),zab e1]
    exact e
   | cons y r =>
    have hne:P.counts L≠[]:=by rw[hcn]; simp
    have hlen:(P.counts L).length<=1000000:=by have:=zgE L; lia
    rw[<- hcn]
    rw[cO_ne hne]
    clear hcn
    refine .inr ⟨d,_,zaa,?_⟩
    simp[zaG,zaY,zan,zaB,wOp,zas,wC,iI0,zad,wCB,zah,zat,zaj,zaZ,zaw,zd0,zcM,zhw,zdy,zis,zaH,ziv,zcN,zgP,zbs,zai,zdq,zeq,zez,zbX,iDct,zaa]
    intro ob
    rw[zb9]
    refine⟨hlen,?_⟩
    have et:List.map ((λkv:LK×T=>lkT kv.1)∘λp:(Int×Int)×Int=>(pK p.1,T.int p.2)) (P.counts L)=(P.counts L).map λp=>pT p.1:=rfl
    rw[et]
    refine zdo (wonT L m) id zaa _ [] (λx hx R k=>k _ (λR' r=>?_) λ_ R' r=>by simpa [zaG,zaY,zan,zaB,zgL,wOp,zas,wC,iI,iI0,zad,wCB,zah,zat,zaX,zaF,ix3,ixA,zc7,zaj,zaZ,zaw,zd0,zcM,zhw,zdy,zgo,wOr,zd9,ziA,wOrV,zix,ziy,wIsN,zb8,isN,zbC,zaq,zaW,zaz,zcL,zbA,zis,zaH,ziv,zcN,zgP,zbs,iR1,iR2,zai,wIsi,isInt,zfN,zd6,mx3,mn3,zcX,wP0,wP1,zb4,zit,app3,ze7,zdq,zeq,zbh,hTup,zfe,hNil,ziz,zez,ziw,zbo] using r) ?_
    ·obtain⟨p,hp,rfl⟩:=List.mem_map.mp hx
     have hg:=c_getF (G:=updG G d (.dG ob ((P.counts L).map λp=>(pK p.1,T.int p.2)))) zaa p.1
     have hv:=P.getL_mem (P.counts_nodup L) (show(p.1,p.2)∈P.counts L from hp)
     have e:wonT L m (pT p.1)=decide ((m:Int) < 2 * p.2):=by
      have:pairOf (pT p.1)=some p.1:=rfl
      simp only[wonT,this,hv,Option.getD_some]
     rw[e]at r
     rw[hv]at hg
     simp[zaG,zaY,zan,zaB,wOp,zas,wC,iI0,zad,wCB,zah,zat,zaj,zaZ,zaw,zd0,zcM,zhw,zdy,zis,zaH,ziv,zcN,zgP,zbs,zai,zdq,zeq,zez,zbX]
     refine ixA_get hg ?_
     simp only[zau]
     exact r
    ·rw[List.nil_append,won_T,List.map_id]
     intro l hl
     have n1:l≠d:=by rintro rfl; rw[zaa]at hl; cases hl
     rw[zab n1]at hl
     simp only[srtP3,zaa]
     refine⟨P.won L m,rfl,P.won_nodup L m,h64,λq hq=>?_⟩
     have n2:q≠l:=by rintro rfl; rw[zaa]at hq; cases hq
     rw[zab n2]at hq
     have n3:q≠d:=by rintro rfl; rw[zaa]at hq; cases hq
     rw[zab n3]at hq
     try simp only[zaa]
     refine⟨ob,by rw[zab (Ne.symm n3),zab (Ne.symm n1)]; exact zaa,?_⟩
     refine h _ λa o e=>?_
     have e1:=neG e hd
     rw[zab e1,zab (neG e hq),zab (neG e hl),zab e1]
     exact e
  ·obtain⟨L1,L2,o3,o4,eL,er,rfl,rfl⟩:=j
   cases L2 with
   | nil=>simp at er
   | cons y L2 =>
    simp only[List.map_cons,List.cons.injEq]at er
    obtain⟨rfl,rfl⟩:=er
    have hc:P.counts (L1++[y])=P.tally (P.counts L1) y:=by simp[P.counts]
    have go:∀ o4',N [some (.tup (L.map zbB)),some (.int m),some (.ref d),some (zbB y),o4'] (updG G d (cO (P.tally (P.counts L1) y))):=λo4'=>hN _ _ ⟨L1++[y],L2,_,_,by simp[eL],rfl,rfl,by rw[hc]⟩
    simp[zaG,zaY,zan,zaB,wOp,zas,wC,iI0,zad,wCB,zah,zat,zaj,zaZ,zaw,zd0,zcM,zhw,zdy,zis,zaH,ziv,zcN,zgP,zbs,zai,zdq,zeq,zez,zbX,ziV]
    refine zax (i:=0) (letTs_0 y) ?_
    cases y with
    | vote b v w =>
     simp[wD,toD,zia,ok1,ok2,zhz,ok4,s12,s13,s14,s23,s24,s34,s12.symm,s13.symm,s14.symm,s23.symm,s24.symm,s34.symm,kindOf,letTs]
     refine zax (i:=1) rfl ?_
     refine zax (i:=3) rfl ?_
     have hlen:(P.counts L1).length<=1000000:=by
      have:=zgE L1
      have:L1.length<=L.length:=by rw[eL]; simp
      lia
     refine onDct_c zaa ?_
     refine get3_c (k:=(b,w)) zaa ?_
     simp
     refine c_set (q:=(b,w)) zaa hlen ?_
     rw[zb9]
     exact go _
    | prepare b=>simp[wD,toD,zia,ok1,ok2,zhz,ok4,s12,s13,s14,s23,s24,s34,s12.symm,s13.symm,s14.symm,s23.symm,s24.symm,s34.symm,kindOf]; exact go _
    | promise b v l=>simp[wD,toD,zia,ok1,ok2,zhz,ok4,s12,s13,s14,s23,s24,s34,s12.symm,s13.symm,s14.symm,s23.symm,s24.symm,s34.symm,kindOf]; exact go _
    | ask b w=>simp[wD,toD,zia,ok1,ok2,zhz,ok4,s12,s13,s14,s23,s24,s34,s12.symm,s13.symm,s14.symm,s23.symm,s24.symm,s34.symm,kindOf]; exact go _
def zbM(Z:Cz):Sp3:=λts G Q=>∃ A S n,ts=[.ref (A .r)]/\RoomAt Z G A S/\P.Ok n S/\n < 64/\∀ G',Ext G G'->Q (.tup ((zbF (P.won S.letters S.many)).map pT)) G'
abbrev zcf:Stmt:=zav (top 27) 10
theorem zf7:FnScope ["self"] ["self"] (zac zcf):=by walk_at "s"
theorem zgf{f:Addr}{fd:FuncData}(F:Fun K "chosen" "Room.chosen" zcf f fd) (aT:At K Z) (F_chosen_pairs:zck Pg w K mg base 2 "chosen_pairs" ["letters","many"] (zcn Z)) (M_Pile_letters:za6 Pg w K mg base 1 Z.P "letters" ["self"] (zbu Z)):FOk Pg w K mg base 3 f fd ["self"] (zbM Z):=by
 refine ok3 F zf7 (λts G Q h=>?_) (λcdv A outer s H E hr=>?_)
 ·obtain⟨A,S,n,rfl,_⟩:=h; rfl
 ·refine⟨_,(zaC (zbg (zbf F_chosen_pairs hr (qa (zb7 (zbW (qv 0)) (M_Pile_letters.mono (by decide:1<=2)) hr) (qa (zbW (qv 0)) qa0))))),λts G Q h=>?_⟩
  obtain⟨A,S,n,rfl,R,ok,hn,h⟩:=h
  simp[zaB,wOp,zas,wC,iI0,zad,wCB,zah,zat,zaj,zaw,zbC,zaz,zai]
  refine zag (R.at' .r trivial) zdN aT.pile ?_
  refine zaf (R.at' .p trivial) rfl ?_
  refine⟨_,_,_,_,rfl,R.at' .p trivial,R.at' .pr trivial,?_⟩
  refine zag (R.at' .r trivial) fR_many aT.rmany ?_
  have h1:=ok.ln
  have h2:=P.won_few ok
  exact⟨_,_,rfl,by lia,by lia,h⟩
def zbR(Z:Cz):Sp3:=λts G Q=>∃ (ns:List Int) (k:Nat),ts=[.fro (ns.map T.int),.int k]/\Q (.int (cellI ns k)) G
abbrev zdh:Stmt:=top 29
theorem zhK:FnScope ["_law_script","_law_k"] ["_law_script","_law_k"] (zac zdh):=by walk_at "s"
theorem zhT{f:Addr}{fd:FuncData}(F:Fun K "_law_cell" "_law_cell" zdh f fd) (aT:At K Z) (b_len:mg "len"=none):FOk Pg w K mg base 1 f fd ["_law_script","_law_k"] (zbR Z):=by
 refine ok3 F zhK (λts G Q h=>?_) (λcdv A outer s H E hr=>?_)
 ·obtain⟨ns,k,rfl,_⟩:=h; rfl
 ·refine⟨_,(qss (zdX (qtlt (qv 1) (zdw b_len (qa (qv 0) qa0))) (zaC (zbg (zdz hr (qv 0) (qv 1)))) zar)
   (zaC (zbg zaA))),λts G Q h=>?_⟩
  obtain⟨ns,k,rfl,h⟩:=h
  simp[zaG,zaY,zan,zaB,wOp,zas,wC,iI0,zad,wCB,zah,zat,zaX,zaF,ix3,ixA,zc7,zaj,zai,zbo]
  by_cases c:k < ns.length
  ·have e1:atI (ns.map T.int) (k:Int)=some (.int ns[k]):=zcT (by simp[c])
   simp only[c,if_true,e1]
   simpa [c,cellI] using h
  ·simp only[c,if_false]
   have:ns.length<=k:=by lia
   simpa [this,cellI] using h
def zco(Z:Cz):Sp3:=λts G Q=>∃ c p m,ts=[.int c,.int p,.int m]/\0 < p/\0 < m/\Q (.int (mix c p m)) G
abbrev zdS:Stmt:=top 30
theorem ziH:FnScope ["_law_cell_here","_law_prime","_law_many_here"] ["_law_cell_here","_law_prime","_law_many_here"] (zac zdS):=by walk_at "s"
theorem ziN{f:Addr}{fd:FuncData}(F:Fun K "_law_mix" "_law_mix" zdS f fd) (aT:At K Z) :FOk Pg w K mg base 1 f fd ["_law_cell_here","_law_prime","_law_many_here"] (zco Z):=by
 refine ok3 F ziH (λts G Q h=>?_) (λcdv A outer s H E hr=>?_)
 ·obtain⟨c,p,m,rfl,_⟩:=h; rfl
 ·refine⟨_,(zaC (zbg (qmod (qmod (qmul (qv 0) zaA) (qv 1)) (qv 2)))),λts G Q h=>?_⟩
  obtain⟨c,p,m,rfl,h1,h2,h⟩:=h
  simp[zaB,wOp,zas,wC,iI,iI0,zad,wCB,zah,zat,zaj,zai]
  exact⟨.inr ⟨by decide,by decide⟩,h1,h2,h⟩
def zbK(Z:Cz):Sp3:=λts G Q=>∃ ns:List Int,ts=[.fro (ns.map T.int)]/\∀ G',Ext G G'->Q (.tup ((zcW ns).map T.int)) G'
abbrev zbw:Stmt:=top 31
theorem zd2:FnScope ["_law_script","_law_many_here"] ["_law_script"] (zac zbw):=by walk_at "s"
theorem zgd{f:Addr}{fd:FuncData}(F:Fun K "_law_wishes" "_law_wishes" zbw f fd) (aT:At K Z) (b_range:mg "range"=none) (b_tuple:mg "tuple"=none) (F__law_cell:zck Pg w K mg base 1 "_law_cell" ["_law_script","_law_k"] (zbR Z)) (F__law_mix:zck Pg w K mg base 1 "_law_mix" ["_law_cell_here","_law_prime","_law_many_here"] (zco Z)):FOk Pg w K mg base 2 f fd ["_law_script"] (zbK Z):=by
 refine ok3 F zd2 (λts G Q h=>?_) (λcdv A outer s H E hr=>?_)
 ·obtain⟨ns,rfl,_⟩:=h; rfl
 ·refine⟨_,(qss (zeH 1 zd2.nd (qadd zaA (zbf F__law_mix hr (qa (zbf F__law_cell hr (qa (qv 0) (qa zaA qa0))) (qa zaA (qa zaA qa0))))))
   (zaC (zbg (zg0 b_tuple (qa (zg1 ["_law_k","_law_script"] [none,some 0] (zgm (oN:=["_law_script","_law_many_here"]) (osc:=zac zbw) rfl rfl (by decide +kernel)) (qi_r1 b_range (qa (qv 1) qa0)) (λ_ _ _ _=>(zbV 0 (show List.Nodup (["_law_k","_law_script"]:List Str)by decide +kernel))) (λ_ _ _ _=>qifs0) (λ_ _ _ _=>(qsub (qmod (qadd (zbf F__law_cell hr (qa (qv 1) (qa zaA qa0))) (qmul zaA (qv 0))) (qpow zaA zaA)) (qmul zaA (qmod (qv 0) zaA))))) qa0))))),λts G Q h=>?_⟩
  obtain⟨ns,rfl,h⟩:=h
  simp[zaG,zaY,zan,zaB,wOp,zas,wC,iI,iI0,zad,wCB,zah,zat,zaF,zaj,zaZ,zaw,zcM,zaH,zgP,zbs,iR1,zai,zdq]
  refine⟨ns,0,rfl,?_⟩
  refine⟨_,_,_,rfl,by decide,by decide,?_⟩
  have hm:=zdM (cellI ns 0) 9973 4 (by decide)
  simp[zaG,zaY,zan,zaB,wOp,zas,wC,iI,iI0,zad,wCB,zah,zat,zaF,zaj,zaZ,zaw,zcM,zaH,zgP,zbs,iR1,zai,zdq,zbX]
  refine⟨by lia,by simp[zcH]; lia,?_⟩
  refine zew (λx=>match x with | .int k=>.int ((cellI ns 1+31 * k) % 10 ^ 9 - 99 * (k % 2)) | _=>.non) trivial _ (λx hx R r=>?_) ?_
  ·obtain⟨k,_,rfl⟩:=List.mem_map.mp hx
   refine⟨ns,1,rfl,?_⟩
   simp[zaG,zaY,zan,zaB,wOp,zas,wC,iI,iI0,zad,wCB,zah,zat,zaF,zaj,zaZ,zaw,zcM,zaH,zgP,zbs,iR1,zai,zdq]
   exact⟨.inl ⟨by decide,by decide⟩,⟨by decide,by decide,by decide⟩,.inl ⟨by decide,by decide⟩,by simpa using r⟩
  ·intro d hd
   simp only[zaa]
   have e:(zcH 0 (1+mix (cellI ns 0) 9973 4)).map (λx=>match x with | T.int k=>T.int ((cellI ns 1+31 * k) % 10 ^ 9 - 99 * (k % 2)) | _=>.non)=(zcW ns).map T.int:=by
    simp[zcH,zcW]
   rw[e]
   exact h _ (Ext.new hd)
def zcw(Z:Cz):Sp3:=λts G Q=>∃ ns:List Int,ts=[.fro (ns.map T.int)]/\Q (.int (manyN ns)) G
abbrev zdg:Stmt:=top 32
theorem zhJ:FnScope ["_law_script"] ["_law_script"] (zac zdg):=by walk_at "s"
theorem zhS{f:Addr}{fd:FuncData}(F:Fun K "_law_many" "_law_many" zdg f fd) (aT:At K Z) (F__law_cell:zck Pg w K mg base 1 "_law_cell" ["_law_script","_law_k"] (zbR Z)) (F__law_mix:zck Pg w K mg base 1 "_law_mix" ["_law_cell_here","_law_prime","_law_many_here"] (zco Z)):FOk Pg w K mg base 2 f fd ["_law_script"] (zcw Z):=by
 refine ok3 F zhJ (λts G Q h=>?_) (λcdv A outer s H E hr=>?_)
 ·obtain⟨ns,rfl,_⟩:=h; rfl
 ·refine⟨_,(zaC (zbg (qadd zaA (zbf F__law_mix hr (qa (zbf F__law_cell hr (qa (qv 0) (qa zaA qa0))) (qa zaA (qa zaA qa0))))))),λts G Q h=>?_⟩
  obtain⟨ns,rfl,h⟩:=h
  simp[zaB,wOp,zas,wC,iI0,zad,wCB,zah,zat,zaj,zaw,zai]
  refine⟨ns,0,rfl,?_⟩
  refine⟨_,_,_,rfl,by decide,by decide,?_⟩
  have hm:=zdM (cellI ns 0) 9967 7 (by decide)
  have e:1+mix (cellI ns 0) 9967 7=(manyN ns:Int):=by unfold manyN; lia
  rw[<- e]at h
  exact h
def zdF(Z:Cz):Sp3:=λts G Q=>∃ (c:Int) (m:Nat),ts=[.int c,.int m]/\m<=1000/\∀ l,G l=none->Q (.ref l) (updG G l (.lst (vsN (zht c m))))
abbrev zcp:Stmt:=top 33
theorem zhL:FnScope ["_law_cell_here","_law_many_here"] ["_law_cell_here","_law_many_here"] (zac zcp):=by walk_at "s"
theorem zhU{f:Addr}{fd:FuncData}(F:Fun K "_law_bits" "_law_bits" zcp f fd) (aT:At K Z) (b_range:mg "range"=none):FOk Pg w K mg base 1 f fd ["_law_cell_here","_law_many_here"] (zdF Z):=by
 refine ok3 F zhL (λts G Q h=>?_) (λcdv A outer s H E hr=>?_)
 ·obtain⟨c,m,rfl,_⟩:=h; rfl
 ·refine⟨_,(zaC (zbg (zg1 ["_law_k","_law_cell_here"] [none,some 0] (zgm (oN:=["_law_cell_here","_law_many_here"]) (osc:=zac zcp) rfl rfl (by decide +kernel)) (qi_r1 b_range (qa (qv 1) qa0)) (λ_ _ _ _=>(zbV 0 (show List.Nodup (["_law_k","_law_cell_here"]:List Str)by decide +kernel))) (λ_ _ _ _=>(qifs1 (zhx hr (qband (qshr (qv 1) (qv 0)) zaA) zaA))) (λ_ _ _ _=>(qv 0))))),λts G Q h=>?_⟩
  obtain⟨c,m,rfl,hm,h⟩:=h
  simp[zaY,zan,zaB,wOp,zas,wC,iI,iI0,zad,wCB,zah,zat,zaj,zcM,zaH,iR1,zai,zdq,zbX]
  refine⟨by lia,by simp[zcH]; lia,?_⟩
  refine zdo (λx=>match x with | .int k=>decide (Builtin.bitAnd (c / 2 ^ k.toNat) 1=1) | _=>false) id trivial _ [] (λx hx R k=>?_) ?_
  ·obtain⟨j,hj,rfl⟩:=List.mem_map.mp hx
   have hj':j < m:=by simpa using hj
   refine k _ (λR' r=>?_) (λ_ R' r=>?_)
   ·simp[zaY,zan,zaB,wOp,zas,wC,iI,iI0,zad,wCB,zah,zat,zaj,zcM,zaH,iR1,zai,zdq,zbX]
    simp at r
    try simp only[wD,toD]
    rw[eqvI]
    exact r
   ·simpa [zaG,zaY,zan,zaB,zgL,wOp,zas,wC,iI,iI0,zad,wCB,zah,zat,zaX,zaj,zaZ,zaw,zd0,zcM,zhw,zdy,zgo,wOr,zd9,ziA,wOrV,zix,ziy,wIsN,zb8,isN,zbC,zaq,zaW,zaz,zcL,zbA,zis,zaH,ziv,zcN,zgP,zbs,iR1,iR2,zai,wIsi,isInt,zfN,zd6,mx3,mn3,zcX,wP0,wP1,zb4,zit,zdq,zeq,zbh,hTup,zfe,hNil,ziz,zez,wLR,wPop,zbX] using r
  ·intro l hl
   have e:(([]:List T)++((zcH 0 (m:Int)).filter λx=>match x with | .int k=>decide (Builtin.bitAnd (c / 2 ^ k.toNat) 1=1) | _=>false).map id)=vsN (zht c m):=by
    simp[zcH,zht,List.filter_map,Function.comp_def]
   rw[e]
   exact h l hl
def zdG(Z:Cz):Sp3:=λts G Q=>∃ (L:List M.Let) (c:Int) (n m:Nat),ts=[.tup (L.map zbB),.int c,.int n,.int m]/\0 < n/\1<=m/\m<=60/\L.length<=100000/\∀ G' l,Ext G G'->G l=none->G' l=some (.lst ((zct L c n m).map zjW))->Q (.ref l) G'
abbrev zbG:Stmt:=top 34
theorem zcA:FnScope ["_law_letters","_law_cell_here","_law_askers","_law_many_here","_law_turn","_law_asker","_law_late"] ["_law_letters","_law_cell_here","_law_askers","_law_many_here"] (zac zbG):=by walk_at "s"
theorem zhV{f:Addr}{fd:FuncData}(F:Fun K "_law_acts" "_law_acts" zbG f fd) (aT:At K Z) (b_len:mg "len"=none) (b_min:mg "min"=none) (b_range:mg "range"=none) (F__law_bits:zck Pg w K mg base 1 "_law_bits" ["_law_cell_here","_law_many_here"] (zdF Z)) (F__law_mix:zck Pg w K mg base 1 "_law_mix" ["_law_cell_here","_law_prime","_law_many_here"] (zco Z)):FOk Pg w K mg base 2 f fd ["_law_letters","_law_cell_here","_law_askers","_law_many_here"] (zdG Z):=by
 refine ok3 F zcA (λts G Q h=>?_) (λcdv A outer s H E hr=>?_)
 ·obtain⟨L,c,n,m,rfl,_⟩:=h; rfl
 ·refine⟨_,(qss (zeH 4 zcA.nd (zbf F__law_mix hr (qa (qv 1) (qa zaA (qa zaA qa0)))))
   (qss (zeH 5 zcA.nd (zbf F__law_mix hr (qa (qv 1) (qa zaA (qa (qv 2) qa0)))))
   (qss (zdX (PW.pt (qwor (qtlt (qv 4) zaA) (qw1o (qtnot (qtru (qv 0)))))) (zaC (zbg (qlst (qa (qtup (qa qstr (qa (qv 5) (qa (zbf F__law_mix hr (qa (qv 1) (qa zaA (qa zaA qa0)))) qa0)))) qa0)))) zar)
   (qss (zdX (zhx hr (qv 4) zaA) (zaC (zbg (qlst (qa (qtup (qa qstr (qa (qv 5) qa0))) qa0)))) zar)
   (qss (zeH 6 zcA.nd (qsub (qsub (zdw b_len (qa (qv 0) qa0)) zaA) (zbf F__law_mix hr (qa (qv 1) (qa zaA (qa (qmin2 b_min (qa (zdw b_len (qa (qv 0) qa0)) (qa zaA qa0))) qa0))))))
   (qss (zdX (qtlt (qv 4) zaA) (zaC (zbg (zg1 ["_law_k","_law_letters","_law_cell_here","_law_many_here"] [none,some 0,some 1,some 3] (zgm (oN:=["_law_letters","_law_cell_here","_law_askers","_law_many_here","_law_turn","_law_asker","_law_late"]) (osc:=zac zbG) rfl rfl (by decide +kernel)) (qi_r2 b_range (qa (qv 6) (qa (zdw b_len (qa (qv 0) qa0)) qa0))) (λ_ _ _ _=>(zbV 0 (show List.Nodup (["_law_k","_law_letters","_law_cell_here","_law_many_here"]:List Str)by decide +kernel))) (λ_ _ _ _=>(qifs1 (zhx hr (zdz hr (zdz hr (qv 1) (qv 0)) zaA) qstr))) (λ_ _ _ _=>(qtup (qa qstr (qa (qv 0) (qa (qmod (qv 2) (qv 3)) qa0)))))))) zar)
   (zaC (zbg (zg1 ["_law_voter","_law_late"] [none,some 6] (zgm (oN:=["_law_letters","_law_cell_here","_law_askers","_law_many_here","_law_turn","_law_asker","_law_late"]) (osc:=zac zbG) rfl rfl (by decide +kernel)) (zgu (zbf F__law_bits hr (qa (zbf F__law_mix hr (qa (qv 1) (qa zaA (qa (qshl zaA (qv 3)) qa0)))) (qa (qv 3) qa0)))) (λ_ _ _ _=>(zbV 0 (show List.Nodup (["_law_voter","_law_late"]:List Str)by decide +kernel))) (λ_ _ _ _=>qifs0) (λ_ _ _ _=>(qtup (qa qstr (qa (qv 1) (qa (qv 0) qa0)))))))))))))),λts G Q h=>?_⟩
  obtain⟨L,c,n,m,rfl,hn,hm,hm6,hL,h⟩:=h
  have h1:=zdM c 9941 n (by lia)
  obtain⟨i,hi⟩:=Int.eq_ofNat_of_zero_le h1.1
  have hin:(mix c 9941 n).toNat=i:=by lia
  simp[zaG,zaY,zan,zaB,wOp,zas,wC,iI,iI0,zad,wCB,zah,zat,zaX,zaj,zaZ,zaw,zd0,zcM,zhw,zdy,wOr,zd9,zaH,iR2,zai,mn3,zdq,zeq,zbX]
  refine⟨c,9949,11,rfl,by decide,by decide,?_⟩
  refine⟨c,9941,_,rfl,by decide,by lia,?_⟩
  rw[hi]
  generalize ht:mix c 9949 11=t
  have fin:∀ acts,zct L c n m=acts->∀ l,G l=none->Q (.ref l) (updG G l (.lst (acts.map zjW))):=λacts e l hl=>h _ l (Ext.new hl) hl (by rw[e]; exact zaa)
  by_cases c0:t < 2∨L=[]
  ·have e1:∀ X Y:Prop,Y->(if t < 2 then Y else if L=[]then Y else X):=λX Y y=>by
    by_cases q1:t < 2
    ·rw[if_pos q1]; exact y
    ·rw[if_neg q1,if_pos (c0.resolve_left q1)]; exact y
   refine e1 _ _ ?_
   refine⟨c,9931,25,rfl,by decide,by decide,?_⟩
   intro l hl
   have:=fin [.begin i (mix c 9931 25)] (by unfold zct; rw[ht,if_pos c0,hin]) l hl
   exact this
  ·have q1:¬ t < 2:=λz=>c0 (.inl z)
   have q2:¬ L=[]:=λz=>c0 (.inr z)
   have hl0:0 < L.length:=List.length_pos_iff.mpr q2
   dsimp only
   rw[if_neg q1,if_neg q2]
   simp only[wD,toD,eqvI]
   by_cases c2:t=2
   ·simp only[c2,decide_true,if_true]
    intro l hl
    have:=fin [.fall i] (by unfold zct; rw[ht,if_neg c0,if_pos c2,hin]) l hl
    exact this
   ·simp only[c2,decide_false,Bool.false_eq_true,if_false]
    have hmin:(if 9 < (L.length:Int)then (9:Int)else L.length)=((min L.length 9:Nat):Int):=by split<;>lia
    rw[hmin]
    have hmr:=zdM c 9929 ((min L.length 9:Nat):Int) (by lia)
    refine⟨c,9929,_,rfl,by decide,by lia,?_⟩
    have hlate:(L.length:Int) - 1 - mix c 9929 ((min L.length 9:Nat):Int)=(zc3 L.length c:Int):=by unfold zc3; lia
    have hll:=zfL (c:=c) hl0
    dsimp only
    rw[hlate]
    by_cases c6:t < 6
    ·rw[if_pos c6]
     refine⟨⟨by lia,by lia,by lia⟩,by simp[zcH]; lia,?_⟩
     rw[rng_range']
     refine zdo (λx=>match x with | .int k=>(L[k.toNat]?).any isPr | _=>false) (λx=>match x with | .int k=>zjW (.bring k.toNat (c % (m:Int)).toNat) | _=>.non) trivial _ [] (λx hx R k=>?_) ?_
     ·obtain⟨j,hj,rfl⟩:=List.mem_map.mp hx
      have hj2:=List.mem_range'_1.mp hj
      have hjl:j < L.length:=by lia
      refine k _ (λR' r=>?_) (λ_ R' r=>?_)
      ·simp[zaG,zaY,zan,zaB,wOp,zas,wC,iI,iI0,zad,wCB,zah,zat,zaX,zaj,zaZ,zaw,zd0,zcM,zhw,zdy,wOr,zd9,zaH,iR2,zai,mn3,zdq,zeq,zbX]
       refine zax (i:=j) (v:=zbB L[j]) (by simp[hjl]) ?_
       rw[ziV]
       refine zax (i:=0) (letTs_0 _) ?_
       simp only[wD,toD,ok_kind,ok2,if_true,isPr_eqv]
       simp[hjl]at r
       exact r
      ·have h3:=Int.emod_nonneg c (b:=(m:Int)) (by lia)
       simp[zaG,zaY,zan,zaB,wOp,zas,wC,iI,iI0,zad,wCB,zah,zat,zaX,zaj,zaZ,zaw,zd0,zcM,zhw,zdy,wOr,zd9,zaH,iR2,zai,mn3,zdq,zeq,zbX]
       refine⟨by lia,?_⟩
       have e:((c % (m:Int)).toNat:Int)=c % (m:Int):=by lia
       simp[zjW,e]at r
       exact r
     ·intro l hl
      have:=fin (((List.range' (zc3 L.length c) (L.length - zc3 L.length c)).filter λk=>(L[k]?).any isPr).map λk=>.bring k (c % (m:Int)).toNat) (by unfold zct; rw[ht,if_neg c0,if_neg c2,if_pos c6]) l hl
      rw[List.nil_append,List.filter_map,List.map_map]
      rw[List.map_map]at this
      exact this
    ·rw[if_neg c6]
     have hp:(0:Int) < 2 ^ m:=Int.pow_pos (by decide)
     refine⟨⟨by lia,by lia,by decide⟩,?_⟩
     refine⟨c,9923,_,rfl,by decide,hp,?_⟩
     refine⟨mix c 9923 (2 ^ m),m,rfl,by lia,λl hl=>?_⟩
     simp only[zaa]
     have hbl:(zht (mix c 9923 (2 ^ m)) m).length<=m:=by
      have:=List.length_filter_le (λ(k:Nat)=>decide (Builtin.bitAnd (mix c 9923 (2 ^ m) / 2 ^ k) 1=1)) (List.range m)
      simpa [zht] using this
     refine⟨by simp; lia,?_⟩
     refine zew (λx=>match x with | .int v=>zjW (.bring (zc3 L.length c) v.toNat) | _=>.non) zaa _ (λx hx R r=>?_) ?_
     ·obtain⟨v,hv,rfl⟩:=List.mem_map.mp hx
      simp[zaG,zaY,zan,zaB,wOp,zas,wC,iI,iI0,zad,wCB,zah,zat,zaX,zaj,zaZ,zaw,zd0,zcM,zhw,zdy,wOr,zd9,zaH,iR2,zai,mn3,zdq,zeq,zbX]
      simpa [zjW] using r
     ·intro d hd
      have nd:d≠l:=by rintro rfl; rw[zaa]at hd; cases hd
      rw[zab nd]at hd
      refine h _ d ((Ext.new hl).trans (Ext.new (by rw[zab nd]; exact hd))) hd ?_
      rw[zaa]
      have e:zct L c n m=(zht (mix c 9923 (2 ^ m)) m).map λv=>.bring (zc3 L.length c) v:=by unfold zct; rw[ht,if_neg c0,if_neg c2,if_neg c6]
      rw[e,List.map_map,List.map_map]
      rfl
def zcO(Z:Cz):Sp3:=λts G Q=>∃ qs:List (Int×Int),ts=[.tup (qs.map pT)]/\Q (oI (zhA qs)) G
abbrev zcd:Stmt:=top 19
theorem zf5:FnScope ["pairs"] ["pairs"] (zac zcd):=by walk_at "s"
theorem zgc{f:Addr}{fd:FuncData}(F:Fun K "chosen_wish" "chosen_wish" zcd f fd) (aT:At K Z) (b_len:mg "len"=none):FOk Pg w K mg base 1 f fd ["pairs"] (zcO Z):=by
 refine ok3 F zf5 (λts G Q h=>?_) (λcdv A outer s H E hr=>?_)
 ·obtain⟨qs,rfl,_⟩:=h; rfl
 ·refine⟨_,(qss (zdX (zhx hr (zdw b_len (qa (qv 0) qa0)) zaA) (zaC (zbg ziL)) zar)
   (zaC (zbg (zdz hr (zdz hr (qv 0) zaA) zaA)))),λts G Q h=>?_⟩
  obtain⟨qs,rfl,h⟩:=h
  cases qs with
  | nil =>
   simp[zaG,zaY,zan,zaB,wOp,zas,wC,iI0,zad,wCB,zah,zat,zaX,zaj,zai,wD,toD,eqvI]
   exact h
  | cons q r =>
   have e:¬ ((r.length:Int)+1=0):=by lia
   simp[zaG,zaY,zan,zaB,wOp,zas,wC,iI0,zad,wCB,zah,zat,zaX,zaj,zai,wD,toD,eqvI,e]
   refine zax (i:=0) rfl ?_
   exact zax (i:=1) rfl h
def zcP(Z:Cz):Sp3:=λts G Q=>∃ A S n,ts=[.ref (A .r)]/\RoomAt Z G A S/\P.Ok n S/\n < 64/\∀ G',Ext G G'->Q (oI (zhA (zbF (P.won S.letters S.many)))) G'
abbrev zcg:Stmt:=zav (top 27) 11
theorem zf8:FnScope ["self"] ["self"] (zac zcg):=by walk_at "s"
theorem zgg{f:Addr}{fd:FuncData}(F:Fun K "choice" "Room.choice" zcg f fd) (aT:At K Z) (F_chosen_wish:zck Pg w K mg base 1 "chosen_wish" ["pairs"] (zcO Z)) (M_Room_chosen:za6 Pg w K mg base 3 Z.R "chosen" ["self"] (zbM Z)):FOk Pg w K mg base 4 f fd ["self"] (zcP Z):=by
 refine ok3 F zf8 (λts G Q h=>?_) (λcdv A outer s H E hr=>?_)
 ·obtain⟨A,S,n,rfl,_⟩:=h; rfl
 ·refine⟨_,(zaC (zbg (zbf (F_chosen_wish.mono (by decide:1<=3)) hr (qa (zb7 (qv 0) M_Room_chosen hr) qa0)))),λts G Q h=>?_⟩
  obtain⟨A,S,n,rfl,R,okS,hn,h⟩:=h
  simp[zaB,wOp,zas,wC,iI0,zad,wCB,zah,zat,zaj,zaw,zaz,zai]
  refine zaf (R.at' .r trivial) rfl ?_
  exact⟨A,S,n,rfl,R,okS,hn,λG' x=>⟨_,rfl,h G' x⟩⟩
def zeB(Z:Cz):Sp3:=λts G Q=>∃ (n:Nat) (A:Adr) (S:P.R) (a:Ac),ts=[.ref (A .r),zjW a]/\RoomAt Z G A S/\P.Ok n S/\n<=1000/\a.fits S/\∀ A' G',A' .r=A .r->RoomAt Z G' A' (a.run S)->Fr G A S G' A' (a.run S)->Q (resT S a) G'
abbrev zei:Stmt:=top 35
theorem sc__law_do:FnScope ["_law_room","_law_act"] ["_law_room","_law_act"] (zac zei):=by walk_at "s"
theorem ok__law_do{f:Addr}{fd:FuncData}(F:Fun K "_law_do" "_law_do" zei f fd) (aT:At K Z) (M_Room_begin:za6 Pg w K mg base 3 Z.R "begin" ["self","asker","least"] (zca Z)) (M_Room_bring:za6 Pg w K mg base 5 Z.R "bring" ["self","k","voter"] (zdb Z)) (M_Room_fall:za6 Pg w K mg base 2 Z.R "fall" ["self","asker"] (zdH Z)):FOk Pg w K mg base 6 f fd ["_law_room","_law_act"] (zeB Z):=by
 refine ok3 F sc__law_do (λts G Q h=>?_) (λcdv A outer s H E hr=>?_)
 ·obtain⟨n,A,S,a,rfl,_⟩:=h; rfl
 ·refine⟨_,(qss (zdX (zhx hr (zdz hr (qv 1) zaA) qstr) (zaC (zbg (zb2 (qv 0) (M_Room_begin.mono (by decide:3<=5)) hr (qa (zdz hr (qv 1) zaA) (qa (zdz hr (qv 1) zaA) qa0))))) zar)
   (qss (zdX (zhx hr (zdz hr (qv 1) zaA) qstr) (zaC (zbg (zb2 (qv 0) (M_Room_fall.mono (by decide:2<=5)) hr (qa (zdz hr (qv 1) zaA) qa0)))) zar)
   (zaC (zbg (zb2 (qv 0) M_Room_bring hr (qa (zdz hr (qv 1) zaA) (qa (zdz hr (qv 1) zaA) qa0))))))),λts G Q h=>?_⟩
  obtain⟨n,A,S,a,rfl,R,okS,hn,f,h⟩:=h
  have hf:=okN okS hn
  cases a with
  | begin i l =>
   simp[zaG,zaY,zan,zaB,wOp,zas,wC,iI0,zad,wCB,zah,zat,zaj,zaW,zai,zjW]
   refine zax (i:=0) rfl ?_
   simp[wD,toD,zia,okb1,okb2,okb3,sb12,sb13,sb23,sb12.symm,sb13.symm,sb23.symm]
   refine zaf (R.at' .r trivial) rfl ?_
   refine zax (i:=1) rfl ?_
   refine zax (i:=2) rfl ?_
   exact⟨A,S,l,i,rfl,R,f.1,hf.ln,λA' G' ea R' F=>h A' G' ea R' F⟩
  | fall i =>
   simp[zaG,zaY,zan,zaB,wOp,zas,wC,iI0,zad,wCB,zah,zat,zaj,zaW,zai,zjW]
   refine zax (i:=0) rfl ?_
   simp[wD,toD,zia,okb1,okb2,okb3,sb12,sb13,sb23,sb12.symm,sb13.symm,sb23.symm]
   refine zax (i:=0) rfl ?_
   simp[wD,toD,zia,okb1,okb2,okb3,sb12,sb13,sb23,sb12.symm,sb13.symm,sb23.symm]
   refine zaf (R.at' .r trivial) rfl ?_
   refine zax (i:=1) rfl ?_
   exact⟨A,S,i,rfl,R,f,λG' R' F=>h A G' rfl R' F⟩
  | bring b v =>
   simp[zaG,zaY,zan,zaB,wOp,zas,wC,iI0,zad,wCB,zah,zat,zaj,zaW,zai,zjW]
   refine zax (i:=0) rfl ?_
   simp[wD,toD,zia,okb1,okb2,okb3,sb12,sb13,sb23,sb12.symm,sb13.symm,sb23.symm]
   refine zax (i:=0) rfl ?_
   simp[wD,toD,zia,okb1,okb2,okb3,sb12,sb13,sb23,sb12.symm,sb13.symm,sb23.symm]
   refine zaf (R.at' .r trivial) rfl ?_
   refine zax (i:=1) rfl ?_
   refine zax (i:=2) rfl ?_
   exact⟨A,S,b,v,rfl,R,hf,f.1,f.2,λG' R' F=>h A G' rfl R' F⟩
def zdE(Z:Cz):Sp3:=λts G Q=>∃ (ns cs:List Int) (cl:Addr) (n:Nat) (A:Adr) (S:P.R),ts=[.ref (A .r),.fro (ns.map T.int),.ref cl]/\G cl=some (.lst (cs.map T.int))/\¬ own A S cl/\RoomAt Z G A S/\P.Ok n S/\n+cs.length<=70/\S.wishes=zcW ns/\S.many=manyN ns /\
 ∀ A' G' l,A' .r=A .r->RoomAt Z G' A' (cellsR S cs)->Fr G A S G' A' (cellsR S cs)->P.Ok (n+cs.length) (cellsR S cs)->P.Grow S (cellsR S cs)->Q (.ref l) G'
abbrev zdf:Stmt:=top 36
theorem zcz:FnScope ["_law_room","_law_script","_law_cells","_law_done","_law_cell_here","_law_act"] ["_law_room","_law_script","_law_cells"] (zac zdf):=by walk_at "s"
theorem zhR{f:Addr}{fd:FuncData}(F:Fun K "_law_play" "_law_play" zdf f fd) (aT:At K Z) (b_len:mg "len"=none) (F__law_acts:zck Pg w K mg base 2 "_law_acts" ["_law_letters","_law_cell_here","_law_askers","_law_many_here"] (zdG Z)) (F__law_do:zck Pg w K mg base 6 "_law_do" ["_law_room","_law_act"] (zeB Z)) (F__law_many:zck Pg w K mg base 2 "_law_many" ["_law_script"] (zcw Z)) (F__law_wishes:zck Pg w K mg base 2 "_law_wishes" ["_law_script"] (zbK Z)) (M_Room_letters:za6 Pg w K mg base 2 Z.R "letters" ["self"] (za1 Z)):FOk Pg w K mg base 7 f fd ["_law_room","_law_script","_law_cells"] (zdE Z):=by
 refine ok3 F zcz (λts G Q h=>?_) (λcdv A outer s H E hr=>?_)
 ·obtain⟨ns,cs,cl,n,A,S,rfl,_⟩:=h; rfl
 ·refine⟨_,(qss (zeH 3 zcz.nd (qlst qa0))
   (qss (qfor (zgu (qv 2)) (zbV 4 zcz.nd) (zaC (qfor (zgu (zbf (F__law_acts.mono (by decide:2<=6)) hr (qa (zb7 (qv 0) (M_Room_letters.mono (by decide:2<=6)) hr) (qa (qv 4) (qa (zdw b_len (qa (zbf (F__law_wishes.mono (by decide:2<=6)) hr (qa (qv 1) qa0)) qa0)) (qa (zbf (F__law_many.mono (by decide:2<=6)) hr (qa (qv 1) qa0)) qa0)))))) (zbV 5 zcz.nd) (qss (zeJ (zbf F__law_do hr (qa (qv 0) (qa (qv 5) qa0))))
   (zaC (zeJ (zg2 (qv 3) (qa (qv 5) qa0))))))))
   (zaC (zbg (qv 3))))),λts G Q h=>?_⟩
  obtain⟨ns,cs,cl,n,A,S,rfl,hcl,ocl,R,okS,hn,hw,hm,h⟩:=h
  have hwl:=zhB ns
  have hmn:=zh1 ns
  simp[zaG,zaB,wOp,zas,wC,iI0,zad,wCB,zah,zat,zaX,zaj,zaZ,zaw,zcM,zaz,zbA,zaH,zai,zit,zeq,wFor]
  intro dn hdn
  have ncl:cl≠dn:=neG hcl hdn
  simp only[show updG G dn (.lst []) cl=some (.lst (cs.map T.int))by rw[zab ncl]; exact hcl]
  refine zdm (J:=λq τ G1=>∃ c1 c2 A1 S1 ds o4 o5,cs=c1++c2/\q=c2.map T.int/\τ=[some (.ref (A .r)),some (.fro (ns.map T.int)),some (.ref cl),some (.ref dn),o4,o5]/\S1=cellsR S c1/\A1 .r=A .r/\RoomAt Z G1 A1 S1/\P.Ok (n+c1.length) S1/\P.Grow S S1/\Fr G A S G1 A1 S1/\G1 dn=some (.lst ds)/\ds.length<=c1.length * 1200/\¬ own A1 S1 dn)
   (λq τ G1 j=>?_) (λτ G1 j=>?_) (λx q τ G1 N hN j=>?_) _ _ _ ⟨[],cs,A,S,[],_,_,rfl,rfl,rfl,rfl,rfl,R.beside (R.free hdn),okS,P.Grow.refl S,Fr.ext (Ext.new hdn),zaa,by simp,R.free hdn⟩
  ·obtain⟨c1,c2,A1,S1,ds,o4,o5,ec,eq,_,eS,ea,R1,okT,g1,F1,hds,hdl,od⟩:=j
   exact(F1 cl _ ocl hcl).1
  ·obtain⟨c1,c2,A1,S1,ds,o4,o5,ec,eq,rfl,rfl,ea,R1,okT,g1,F1,hds,hdl,od⟩:=j
   have e2:c2=[]:=by simpa using eq.symm
   subst e2
   rw[List.append_nil]at ec
   subst ec
   exact h A1 G1 dn ea R1 F1 okT g1
  ·obtain⟨c1,c2,A1,S1,ds,o4,o5,ec,eq,rfl,eS,ea,R1,okT,g1,F1,hds,hdl,od⟩:=j
   cases c2 with
   | nil=>simp at eq
   | cons c c2 =>
    simp only[List.map_cons,List.cons.injEq]at eq
    obtain⟨rfl,rfl⟩:=eq
    have hcl1:c1.length+1<=cs.length:=by rw[ec]; simp
    have hw1:S1.wishes=zcW ns:=g1.w.trans hw
    have hm1:S1.many=manyN ns:=g1.m.trans hm
    have hl1:=okT.ln
    simp[zaG,zaB,wOp,zas,wC,iI0,zad,wCB,zah,zat,zaX,zaj,zaZ,zaw,zcM,zaz,zbA,zaH,zai,zit,zeq,wFor]
    refine zaf (ea ▸ R1.at' .r trivial) rfl ?_
    refine⟨A1,S1,by rw[ea],R1,?_⟩
    refine⟨ns,rfl,λG2 x2=>?_⟩
    refine⟨ns,rfl,?_⟩
    simp only[List.length_map]
    refine⟨S1.letters,c,(zcW ns).length,manyN ns,rfl,by lia,by lia,by lia,by lia,λG3 la x3 hla ha3=>?_⟩
    obtain⟨as,eas⟩:∃ as,as=zct S1.letters c S1.wishes.length S1.many:=⟨_,rfl⟩
    rw[<- hw1,<- hm1,<- eas]at ha3
    have hfit:∀ a∈as,a.fits S1:=λa ha=>zje (by rw[hw1]; lia) (by rw[hm1]; lia) (eas ▸ ha)
    have hcost:zev as<=1:=eas ▸ costs_acts _ _ _ _
    have hlen:as.length<=1200:=by have:=acts_len S1.letters c S1.wishes.length S1.many; rw[<- eas]at this; lia
    have xx:=x2.trans x3
    have nla:la≠dn:=Ne.symm (neG (x2 _ _ hds) hla)
    have ola:¬ own A1 S1 la:=(R1.ext x2).free hla
    simp only[ha3]
    refine zdm (J:=λq τ G4=>∃ a1 a2 A4 S4 ds4 o5,as=a1++a2/\q=a2.map zjW/\τ=[some (.ref (A .r)),some (.fro (ns.map T.int)),some (.ref cl),some (.ref dn),some (.int c),o5]/\S4=runs S1 a1/\A4 .r=A .r/\RoomAt Z G4 A4 S4/\P.Ok (n+c1.length+zev a1) S4/\P.Grow S1 S4/\Fr G A S G4 A4 S4/\G4 dn=some (.lst ds4)/\ds4.length<=c1.length * 1200+a1.length/\¬ own A4 S4 dn/\G4 la=some (.lst (as.map zjW))/\¬ own A4 S4 la)
     (λq τ G4 j=>?_) (λτ G4 j=>?_) (λx q τ G4 N2 hN2 j=>?_) _ _ _ ⟨[],as,A1,S1,ds,_,rfl,rfl,rfl,rfl,ea,R1.ext xx,okT,P.Grow.refl _,F1.trans (Fr.ext xx),xx _ _ hds,by simpa using hdl,od,ha3,ola⟩
    ·obtain⟨a1,a2,A4,S4,ds4,o5,e4,eq,_,eS4,ea4,R4,okU,g4,F4,hd4,hdl4,od4,hla4,ola4⟩:=j
     exact hla4
    ·obtain⟨a1,a2,A4,S4,ds4,o5,e4,eq,rfl,eS4,ea4,R4,okU,g4,F4,hd4,hdl4,od4,hla4,ola4⟩:=j
     have e2:a2=[]:=by simpa using eq.symm
     subst e2
     rw[List.append_nil]at e4
     subst e4
     have eS5:S4=cellsR S (c1++[c]):=by rw[eS4,eas,eS]; simp[cellsR,cellR]
     exact hN _ _ ⟨c1++[c],c2,A4,S4,ds4,_,_,by simp[ec],rfl,rfl,eS5,ea4,R4,okU.mono (by simp; lia),g1.trans g4,F4,hd4,by simp; lia,od4⟩
    ·obtain⟨a1,a2,A4,S4,ds4,o5,e4,eq,rfl,eS4,ea4,R4,okU,g4,F4,hd4,hdl4,od4,hla4,ola4⟩:=j
     cases a2 with
     | nil=>simp at eq
     | cons a a2 =>
      simp only[List.map_cons,List.cons.injEq]at eq
      obtain⟨rfl,rfl⟩:=eq
      have hpre:zev a1<=1:=Nat.le_trans (e4 ▸ costs_pre) hcost
      have hal:a1.length+1<=as.length:=by rw[e4]; simp
      have fa:=fits_grow g4 (hfit a (by rw[e4]; simp))
      simp[zaG,zaB,wOp,zas,wC,iI0,zad,wCB,zah,zat,zaX,zaj,zaZ,zaw,zcM,zaz,zbA,zaH,zai,zit,zeq]
      refine⟨_,A4,S4,a,by rw[ea4],R4,okU,by lia,fa,λA5 G5 ea5 R5 F5=>?_⟩
      have fd:=F5 dn _ od4 hd4
      have fl:=F5 la _ ola4 hla4
      refine zg5 fd.1 (zjc fd.1 (by lia) ?_)
      refine hN2 _ _ ⟨a1++[a],a2,A5,a.run S4,ds4++[zjW a],_,by simp[e4],rfl,rfl,by rw[eS4]; simp[runs],ea5.trans ea4,R5.beside fd.2,?_,g4.trans (Ac.grow S4 a),?_,zaa,by simp; lia,fd.2,by rw[zab nla]; exact fl.1,fl.2⟩
      ·rw[costs_app,<- Nat.add_assoc]; exact Ac.ok okU fa
      ·intro b o hb e
       have:=(F4.trans F5) b o hb e
       have nb:b≠dn:=neG e hdn
       exact⟨by rw[zab nb]; exact this.1,this.2⟩
abbrev lamQ:Str:="_law_shown.<locals>.<lambda>"
abbrev lamP:Pos:=⟨256,50,256,85⟩
theorem lkey_let(x:M.Let):(lkey (zbB x)).isSome=true:=by cases x<;>rfl
noncomputable def srtL(L:List M.Let):List M.Let:=(Ts.sortIx L.length (cq (keysOf (L.map zbB)))).map λi=>L.getD i (.prepare 0)
theorem srtK_let(L:List M.Let):srtK (L.map zbB)=(srtL L).map zbB:=by
 unfold srtK srtL
 rw[List.length_map,List.map_map]
 refine List.map_congr_left λi hi=>?_
 have hi':i < L.length:=Ts.sortIx_lt hi
 simp[hi']
noncomputable def shV(S:P.R)(v:Nat):T:=.tup [oI (S.voters v).promised,oP (S.voters v).voted]
noncomputable def shVD(S:P.R)(v:Nat):PyData:=.tuple [oD (S.voters v).promised,oPD (S.voters v).voted]
noncomputable def pD(q:Int×Int):PyData:=.tuple [.int q.1,.int q.2]
noncomputable def balsL(S:P.R):List T:=(List.range S.wishes.length).map λi=>oI (S.askers i).ballot
noncomputable def shnL(S:P.R)(l1 l2:Addr)(k:Nat):List T:=[.ref l1,.tup ((zbF (P.won S.letters S.many)).map pT),oI (zhA (zbF (P.won S.letters S.many))),.ref l2]++(List.range k).map (shV S)
structure Sh(G:Gp)(p l1 l2:Addr)(S:P.R)(k:Nat):Prop where
 a:G p=some (.lst (shnL S l1 l2 k))
 b:G l1=some (.lst ((srtL S.letters).map zbB))
 c:G l2=some (.lst (balsL S))
theorem Sh.ext{G G':Gp}{p l1 l2:Addr}{S:P.R}{k:Nat}(s:Sh G p l1 l2 S k)(x:Ext G G'):Sh G' p l1 l2 S k:=⟨x _ _ s.a,x _ _ s.b,x _ _ s.c⟩
def zc8(Z:Cz):Sp3:=λts G Q=>∃ (n:Nat) (A:Adr) (S:P.R),ts=[.ref (A .r),.int S.wishes.length,.int S.many]/\RoomAt Z G A S/\P.Ok n S/\n < 64/\S.wishes.length<=1000/\G Z.T=some (.tab lamQ lamP) /\
 ∀ G' p l1 l2,Ext G G'->G p=none->G l1=none->G l2=none->Sh G' p l1 l2 S S.many->Q (.ref p) G'
abbrev zbS:Stmt:=top 37
theorem zdd:FnScope ["_law_room","_law_askers","_law_many_here","_law_found","_law_voter"] ["_law_room","_law_askers","_law_many_here"] (zac zbS):=by walk_at "s"
theorem zg8{f c:Addr}{fd:FuncData}(F:Fun K "_law_shown" "_law_shown" zbS f fd) (hC:fd.code=.ref c) (hT:W.CodeHd base c Z.T) (hB:base.BuiltinsAt mg Z.T) (aT:At K Z) (b_range:mg "range"=none) (b_sorted:mg "sorted"=none) (M_Room_ballot_of:za6 Pg w K mg base 2 Z.R "ballot_of" ["self","asker"] (zbE Z)) (M_Room_choice:za6 Pg w K mg base 4 Z.R "choice" ["self"] (zcP Z)) (M_Room_chosen:za6 Pg w K mg base 3 Z.R "chosen" ["self"] (zbM Z)) (M_Room_letters:za6 Pg w K mg base 2 Z.R "letters" ["self"] (za1 Z)) (M_Room_promised:za6 Pg w K mg base 2 Z.R "promised" ["self","voter"] (zbY Z)) (M_Room_voted:za6 Pg w K mg base 2 Z.R "voted" ["self","voter"] (zda Z)):FOk Pg w K mg base 5 f fd ["_law_room","_law_askers","_law_many_here"] (zc8 Z):=by
 refine ok3c F hC zdd (λts G Q h=>?_) (λA outer s H E hr=>?_)
 ·obtain⟨n,A,S,rfl,_⟩:=h; rfl
 ·refine⟨_,(qss (zeH 3 zdd.nd (qlst (qa (qsortK (qual:=lamQ) ⟨rfl,hT,hB⟩ hr b_sorted (qa (zb7 (qv 0) (M_Room_letters.mono (by decide:2<=4)) hr) qa0)) (qa (zb7 (qv 0) (M_Room_chosen.mono (by decide:3<=4)) hr) (qa (zb7 (qv 0) M_Room_choice hr) qa0)))))
   (qss (zeJ (zg2 (qv 3) (qa (zg1 ["_law_asker","_law_room"] [none,some 0] (zgm (oN:=["_law_room","_law_askers","_law_many_here","_law_found","_law_voter"]) (osc:=zac zbS) rfl rfl (by decide +kernel)) (qi_r1 b_range (qa (qv 1) qa0)) (λ_ _ _ _=>(zbV 0 (show List.Nodup (["_law_asker","_law_room"]:List Str)by decide +kernel))) (λ_ _ _ _=>qifs0) (λ_ _ _ _=>(zb2 (qv 1) (M_Room_ballot_of.mono (by decide:2<=4)) hr (qa (qv 0) qa0)))) qa0)))
   (qss (qfor (qi_r1 b_range (qa (qv 2) qa0)) (zbV 4 zdd.nd) (zaC (zeJ (zg2 (qv 3) (qa (qtup (qa (zb2 (qv 0) (M_Room_promised.mono (by decide:2<=4)) hr (qa (qv 4) qa0)) (qa (zb2 (qv 0) (M_Room_voted.mono (by decide:2<=4)) hr (qa (qv 4) qa0)) qa0))) qa0)))))
   (zaC (zbg (qv 3)))))),λts G Q h=>?_⟩
  obtain⟨n,A,S,rfl,R,okS,hn,hw,gT,h⟩:=h
  have hm7:=okS.m
  simp[zaG,zaY,zan,zaB,wOp,zas,wC,iI0,zad,wCB,zah,zat,zaj,zaZ,zd0,zcM,zaW,zaz,zbA,zaH,iR1,zai,zit,zdq,zbX,wSortK,wFor]
  refine zaf (R.at' .r trivial) rfl ?_
  refine⟨A,S,rfl,R,?_⟩
  refine⟨gT,λu hu=>by obtain⟨x,_,rfl⟩:=List.mem_map.mp hu; exact lkey_let x,λl1 hl1=>?_⟩
  rw[srtK_let]
  have x1:=Ext.new (o:=.lst ((srtL S.letters).map zbB)) hl1
  have g1:updG G l1 (.lst ((srtL S.letters).map zbB)) l1=some (.lst ((srtL S.letters).map zbB)):=zaa
  generalize updG G l1 (.lst ((srtL S.letters).map zbB))=G1 at x1 g1
  have R1:=R.ext x1
  refine zaf (R1.at' .r trivial) rfl ?_
  refine⟨A,S,n,rfl,R1,okS,hn,λG2 x2=>?_⟩
  have R2:=R1.ext x2
  refine zaf (R2.at' .r trivial) rfl ?_
  refine⟨A,S,n,rfl,R2,okS,hn,λG3 x3=>?_⟩
  intro p hp
  have x03:=(x1.trans x2).trans x3
  have gone:∀ {G':Gp},Ext G G'->∀ a,G' a=none->G a=none:=λ{G'} x a e=>by
   cases q:G a with
   | none=>rfl
   | some o=>rw[x a o q]at e; cases e
  have R3:=R2.ext x3
  have hl13:G3 l1=some (.lst ((srtL S.letters).map zbB)):=x3 _ _ (x2 _ _ g1)
  have n1p:l1≠p:=neG hl13 hp
  refine zg5 zaa ?_
  have x4:=Ext.new (o:=.lst [T.ref l1,T.tup ((zbF (P.won S.letters S.many)).map pT),oI (zhA (zbF (P.won S.letters S.many)))]) hp
  have R4:=R3.ext x4
  refine⟨by lia,by simp[zcH]; lia,?_⟩
  refine zew (λx=>match x with | .int k=>oI (S.askers k.toNat).ballot | _=>.non) trivial _ (λx hx R' r=>?_) ?_
  ·obtain⟨v,hv,rfl⟩:=List.mem_map.mp hx
   have hv':v < S.wishes.length:=by simpa using hv
   simp[zaG,zaY,zan,zaB,wOp,zas,wC,iI0,zad,wCB,zah,zat,zaj,zaZ,zd0,zcM,zaW,zaz,zbA,zaH,iR1,zai,zit,zdq,zbX]
   refine zaf (R4.at' .r trivial) rfl ?_
   refine⟨A,S,v,by simp,R4,hv',?_⟩
   simpa using r
  ·intro l2 hl2
   have e2:(zcH 0 (S.wishes.length:Int)).map (λx=>match x with | T.int k=>oI (S.askers k.toNat).ballot | _=>.non)=balsL S:=by simp[zcH,balsL]
   rw[e2]
   have n2p:l2≠p:=λz=>by rw[z,zaa]at hl2; cases hl2
   have hl23:G3 l2=none:=by rw[zab n2p]at hl2; exact hl2
   have n12:l1≠l2:=neG hl13 hl23
   have gp5:updG (updG G3 p (.lst [T.ref l1,T.tup ((zbF (P.won S.letters S.many)).map pT),oI (zhA (zbF (P.won S.letters S.many)))])) l2 (.lst (balsL S)) p=some (.lst [T.ref l1,T.tup ((zbF (P.won S.letters S.many)).map pT),oI (zhA (zbF (P.won S.letters S.many)))]):=by rw[zab n2p.symm]; exact zaa
   refine zjc gp5 (by simp) ?_
   refine⟨by lia,?_⟩
   refine zdm (J:=λq τ G6=>∃ (k:Nat) (o4:Option T),q=(zcH 0 (S.many:Int)).drop k/\k<=S.many/\τ=[some (.ref (A .r)),some (.int S.wishes.length),some (.int S.many),some (.ref p),o4]/\(∀ a o,a≠p->G3 a=some o->G6 a=some o)/\Sh G6 p l1 l2 S k)
    (λq τ G6 j=>trivial) (λτ G6 j=>?_) (λx q τ G6 N hN j=>?_) _ _ _ ⟨0,_,rfl,by lia,rfl,λa o na e=>?_,⟨?_,?_,?_⟩⟩
   ·obtain⟨k,o4,eq,hk,rfl,kp,sh⟩:=j
    have ek:k=S.many:=by
     have:=List.drop_eq_nil_iff.mp eq.symm
     simp[zcH]at this; lia
    subst ek
    simp[zaG,zaY,zan,zaB,wOp,zas,wC,iI0,zad,wCB,zah,zat,zaj,zaZ,zd0,zcM,zaW,zaz,zbA,zaH,iR1,zai,zit,zdq,zbX]
    exact h G6 p l1 l2 (λa o e=>kp a o (neG (x03 a o e) hp) (x03 a o e)) (gone x03 p hp) hl1 (gone x03 l2 hl23) sh
   ·obtain⟨k,o4,eq,hk,rfl,kp,sh⟩:=j
    have hkm:k < S.many:=by
     have:=congrArg List.length eq
     simp[zcH]at this; lia
    have hkl:k < (zcH 0 (S.many:Int)).length:=by simpa [zcH] using hkm
    have ex:(zcH 0 (S.many:Int))[k]=.int k:=by simp[zcH]
    rw[List.drop_eq_getElem_cons hkl,ex]at eq
    cases eq
    have R6:RoomAt Z G6 A S:=⟨λs hs=>kp _ _ (neG (R3.at' s hs) hp) (R3.at' s hs),R.inj⟩
    simp[zaG,zaY,zan,zaB,wOp,zas,wC,iI0,zad,wCB,zah,zat,zaj,zaZ,zd0,zcM,zaW,zaz,zbA,zaH,iR1,zai,zit,zdq,zbX]
    refine zg5 sh.a ?_
    refine zaf (R6.at' .r trivial) rfl ?_
    refine⟨A,S,k,rfl,R6,hkm,?_⟩
    dsimp only
    refine zaf (R6.at' .r trivial) rfl ?_
    refine⟨A,S,k,rfl,R6,hkm,?_⟩
    dsimp only
    refine zjc sh.a (by simp[shnL]; lia) ?_
    refine hN _ _ ⟨k+1,_,rfl,by lia,rfl,λa o na e=>by rw[zab na]; exact kp a o na e,⟨?_,?_,?_⟩⟩
    ·rw[zaa]; simp[shnL,List.range_succ,shV]
    ·rw[zab n1p]; exact sh.b
    ·rw[zab n2p]; exact sh.c
   ·have na2:a≠l2:=neG e hl23
    rw[zab na,zab na2,zab na]; exact e
   ·rw[zaa]; simp[shnL]
   ·rw[zab n1p,zab n12,zab n1p]; exact hl13
   ·rw[zab n2p]; exact zaa
def zcQ(Z:Cz):Sp3:=λts G Q=>∃ (p pr:Addr) (wr:T) (L:List M.Let),ts=[.ref p]/\G p=some (.ins Z.P (fP (.ref pr) wr))/\G pr=some (.lst (L.map zbB))/\L.length<=100000/\∀ G',Ext G G'->Q (.int (P.beyond L)) G'
abbrev zbx:Stmt:=zav (top 15) 5
theorem zf9:FnScope ["self"] ["self"] (zac zbx):=by walk_at "s"
theorem zgh{f:Addr}{fd:FuncData}(F:Fun K "beyond" "Pile.beyond" zbx f fd) (aT:At K Z) (b_max:mg "max"=none):FOk Pg w K mg base 1 f fd ["self"] (zcQ Z):=by
 refine ok3 F zf9 (λts G Q h=>?_) (λcdv A outer s H E hr=>?_)
 ·obtain⟨p,pr,wr,L,rfl,_⟩:=h; rfl
 ·refine⟨_,(zaC (zbg (qmaxD b_max (qa (zg1 ["letter"] [none] (zgm (oN:=["self"]) (osc:=zac zbx) rfl rfl (by decide +kernel)) (zgu (zbW (qv 0))) (λ_ _ _ _=>(zbV 0 (show List.Nodup (["letter"]:List Str)by decide +kernel))) (λ_ _ _ _=>qifs0) (λ_ _ _ _=>(qadd (zdz hr (qv 0) zaA) zaA))) qa0) zaA))),λts G Q h=>?_⟩
  obtain⟨p,pr,wr,L,rfl,hp,h1,hL,h⟩:=h
  simp[zaY,zaB,wOp,zas,wC,iI0,zad,wCB,zah,zat,zaj,zcM,zbC,zaH,zai,zdq,zeq,zbX,wMaxD]
  refine zag hp zgD aT.row ?_
  simp only[h1]
  refine⟨by simp; lia,?_⟩
  refine zew plus1T h1 _ (λx hx R r=>?_) ?_
  ·obtain⟨y,hy,rfl⟩:=List.mem_map.mp hx
   have e:plus1T (zbB y)=.int (y.bal+1):=by cases y<;>rfl
   rw[e]at r
   simp[zaY,zaB,wOp,zas,wC,iI0,zad,wCB,zah,zat,zaj,zcM,zbC,zaH,zai,zdq,zeq,zbX,ziV]
   exact zax (i:=1) (letTs_1 y) r
  ·rw[plus1T_map]
   intro l hl
   simp only[zaa]
   refine⟨trivial,_,rfl,?_⟩
   have:=h _ (Ext.new (o:=.lst ((L.map λx=>x.bal+1).map T.int)) hl)
   cases L with
   | nil=>exact this
   | cons x r =>
    simp only[List.map_cons,maxDT,bestL_mxl]
    exact this
def zjY(n:Nat)(i:Int):Prop:=i < 0∨(n:Int)<=i
def zaV(Z:Cz):zff:=λts G C=>C=Z.xA/\∃ (A:Adr) (S:P.R) (i:Int),ts=[.ref (A .r),.int i]/\RoomAt Z G A S/\zjY S.wishes.length i
def zaU(Z:Cz):zff:=λts G C=>C=Z.xV/\∃ (A:Adr) (S:P.R) (i:Int),ts=[.ref (A .r),.int i]/\RoomAt Z G A S/\zjY S.many i
theorem zf3{G:Gp}:Sub3 G G:=λ_ _ h=>h
theorem zeV{f:Addr}{fd:FuncData}(F:Fun K "asker_at" "Room.asker_at" za4 f fd) (aT:At K Z) (xs:Xs K mg Z) (b_len:mg "len"=none):BOk Pg w K mg base 1 f fd ["self","asker"] (zaV Z):=by
 refine okB F zdu (λts G C h=>?_) (λcdv A outer s H E G0 C0 hr hE=>?_)
 ·obtain⟨_,A,S,i,rfl,_⟩:=h; rfl
 ·refine⟨_,(qss (zdX (PW.pt (qwor (qtlt (qv 1) zaA) (qw1o (qtge (qv 1) (zdw b_len (qa (zbW (qv 0)) qa0)))))) (zaC (qraise hE xs.gA xs.qA)) zar)
   zeI),λts h=>?_⟩
  obtain⟨rfl,A,S,i,rfl,R,hi⟩:=h
  by_cases c:i < 0
  ·simp[zaG,zaY,zan,wOp,zas,wC,iI0,zad,wCB,zah,zat,zaX,zaF,zaj,wOr,zbC,zai,zbh,zfo,c]
   exact zf3
  ·have hj:(S.wishes.length:Int)<=i:=hi.resolve_left c
   simp[zaG,zaY,zan,wOp,zas,wC,iI0,zad,wCB,zah,zat,zaX,zaF,zaj,wOr,zbC,zai,zbh,c]
   refine zag (R.at' .r trivial) zdO aT.askers ?_
   simp[R.at' .la trivial,obj,hj,zfo]
   exact zf3
theorem zeT{f:Addr}{fd:FuncData}(F:Fun K "voter_at" "Room.voter_at" za2 f fd) (aT:At K Z) (xs:Xs K mg Z) (b_len:mg "len"=none):BOk Pg w K mg base 1 f fd ["self","voter"] (zaU Z):=by
 refine okB F zds (λts G C h=>?_) (λcdv A outer s H E G0 C0 hr hE=>?_)
 ·obtain⟨_,A,S,i,rfl,_⟩:=h; rfl
 ·refine⟨_,(qss (zdX (PW.pt (qwor (qtlt (qv 1) zaA) (qw1o (qtge (qv 1) (zdw b_len (qa (zbW (qv 0)) qa0)))))) (zaC (qraise hE xs.gV xs.qV)) zar)
   zeI),λts h=>?_⟩
  obtain⟨rfl,A,S,i,rfl,R,hi⟩:=h
  by_cases c:i < 0
  ·simp[zaG,zaY,zan,wOp,zas,wC,iI0,zad,wCB,zah,zat,zaX,zaF,zaj,wOr,zbC,zai,zbh,zfo,c]
   exact zf3
  ·have hj:(S.many:Int)<=i:=hi.resolve_left c
   simp[zaG,zaY,zan,wOp,zas,wC,iI0,zad,wCB,zah,zat,zaX,zaF,zaj,wOr,zbC,zai,zbh,c]
   refine zag (R.at' .r trivial) zfQ aT.voters ?_
   simp[R.at' .lv trivial,obj,hj,zfo]
   exact zf3
def zbI(Z:Cz):zff:=λts G C=>C=Z.xL/\∃ (p pr:Addr) (wr:T) (L:List T) (i:Int),ts=[.ref p,.int i]/\G p=some (.ins Z.P (fP (.ref pr) wr))/\G pr=some (.lst L)/\zjY L.length i
theorem zem{f:Addr}{fd:FuncData}(F:Fun K "letter_at" "Pile.letter_at" zaT f fd) (aT:At K Z) (xs:Xs K mg Z) (b_len:mg "len"=none):BOk Pg w K mg base 1 f fd ["self","k"] (zbI Z):=by
 refine okB F zc2 (λts G C h=>?_) (λcdv A outer s H E G0 C0 hr hE=>?_)
 ·obtain⟨_,p,pr,wr,L,i,rfl,_⟩:=h; rfl
 ·refine⟨_,(qss (zdX (PW.pt (qwor (qtlt (qv 1) zaA) (qw1o (qtge (qv 1) (zdw b_len (qa (zbW (qv 0)) qa0)))))) (zaC (qraise hE xs.gL xs.qL)) zar)
   zeI),λts h=>?_⟩
  obtain⟨rfl,p,pr,wr,L,i,rfl,hp,hl,hi⟩:=h
  by_cases c:i < 0
  ·simp[zaG,zaY,zan,wOp,zas,wC,iI0,zad,wCB,zah,zat,zaX,zaF,zaj,wOr,zbC,zai,zbh,zfo,c]
   exact zf3
  ·have hj:(L.length:Int)<=i:=hi.resolve_left c
   simp[zaG,zaY,zan,wOp,zas,wC,iI0,zad,wCB,zah,zat,zaX,zaF,zaj,wOr,zbC,zai,zbh,c]
   refine zag hp zgD aT.row ?_
   simp[hl,hj,zfo]
   exact zf3
def zdJ(Z:Cz):zff:=λts G C=>C=Z.xA/\∃ (A:Adr) (S:P.R) (i:Int),ts=[.ref (A .r),.int i]/\RoomAt Z G A S/\zjY S.wishes.length i
theorem zhg{f:Addr}{fd:FuncData}(F:Fun K "fall" "Room.fall" zcq f fd) (aT:At K Z) (xs:Xs K mg Z) (M_Asker_fall:za6 Pg w K mg base 1 Z.A "fall" ["self"] (zcb Z)) (MB_Room_asker_at:zbp Pg w K mg base 1 Z.R "asker_at" ["self","asker"] (zaV Z)):BOk Pg w K mg base 2 f fd ["self","asker"] (zdJ Z):=by
 refine okB F zeY (λts G C h=>?_) (λcdv A outer s H E G0 C0 hr hE=>?_)
 ·obtain⟨_,A,S,i,rfl,_⟩:=h; rfl
 ·refine⟨_,(zaC (zeJ (zb7 (zb6 (qv 0) MB_Room_asker_at hr (zdY hE) (qa (qv 1) qa0)) M_Asker_fall hr))),λts h=>?_⟩
  obtain⟨rfl,A,S,i,rfl,R,hi⟩:=h
  simp[wOp,zas,wC,iI0,zad,wCB,zah,zat,zaj,zaz,zbA,zai,zdp]
  refine zaf (R.at' .r trivial) rfl ?_
  exact⟨⟨rfl,A,S,i,rfl,R,hi⟩,zf3⟩
def zbH(Z:Cz):zff:=λts G C=>C=Z.xA/\∃ (A:Adr) (S:P.R) (i:Int),ts=[.ref (A .r),.int i]/\RoomAt Z G A S/\zjY S.wishes.length i
theorem zel{f:Addr}{fd:FuncData}(F:Fun K "ballot_of" "Room.ballot_of" zaS f fd) (aT:At K Z) (xs:Xs K mg Z) (MB_Room_asker_at:zbp Pg w K mg base 1 Z.R "asker_at" ["self","asker"] (zaV Z)):BOk Pg w K mg base 2 f fd ["self","asker"] (zbH Z):=by
 refine okB F zc1 (λts G C h=>?_) (λcdv A outer s H E G0 C0 hr hE=>?_)
 ·obtain⟨_,A,S,i,rfl,_⟩:=h; rfl
 ·refine⟨_,(zaC (zbg (zbW (zb6 (qv 0) MB_Room_asker_at hr (zdY hE) (qa (qv 1) qa0))))),λts h=>?_⟩
  obtain⟨rfl,A,S,i,rfl,R,hi⟩:=h
  simp[zaB,wOp,zas,wC,iI0,zad,wCB,zah,zat,zaj,zbC,zai,zdp]
  refine zaf (R.at' .r trivial) rfl ?_
  exact⟨⟨rfl,A,S,i,rfl,R,hi⟩,zf3⟩
def zb1(Z:Cz):zff:=λts G C=>C=Z.xV/\∃ (A:Adr) (S:P.R) (i:Int),ts=[.ref (A .r),.int i]/\RoomAt Z G A S/\zjY S.many i
theorem zeU{f:Addr}{fd:FuncData}(F:Fun K "promised" "Room.promised" za3 f fd) (aT:At K Z) (xs:Xs K mg Z) (M_Voter_promised:za6 Pg w K mg base 1 Z.V "promised" ["self"] (za8 Z)) (MB_Room_voter_at:zbp Pg w K mg base 1 Z.R "voter_at" ["self","voter"] (zaU Z)):BOk Pg w K mg base 2 f fd ["self","voter"] (zb1 Z):=by
 refine okB F zdt (λts G C h=>?_) (λcdv A outer s H E G0 C0 hr hE=>?_)
 ·obtain⟨_,A,S,i,rfl,_⟩:=h; rfl
 ·refine⟨_,(zaC (zbg (zb7 (zb6 (qv 0) MB_Room_voter_at hr (zdY hE) (qa (qv 1) qa0)) M_Voter_promised hr))),λts h=>?_⟩
  obtain⟨rfl,A,S,i,rfl,R,hi⟩:=h
  simp[zaB,wOp,zas,wC,iI0,zad,wCB,zah,zat,zaj,zaz,zai,zdp]
  refine zaf (R.at' .r trivial) rfl ?_
  exact⟨⟨rfl,A,S,i,rfl,R,hi⟩,zf3⟩
def zdk(Z:Cz):zff:=λts G C=>C=Z.xV/\∃ (A:Adr) (S:P.R) (i:Int),ts=[.ref (A .r),.int i]/\RoomAt Z G A S/\zjY S.many i
theorem zgj{f:Addr}{fd:FuncData}(F:Fun K "voted" "Room.voted" zbT f fd) (aT:At K Z) (xs:Xs K mg Z) (M_Voter_voted:za6 Pg w K mg base 1 Z.V "voted" ["self"] (zbL Z)) (MB_Room_voter_at:zbp Pg w K mg base 1 Z.R "voter_at" ["self","voter"] (zaU Z)):BOk Pg w K mg base 2 f fd ["self","voter"] (zdk Z):=by
 refine okB F zef (λts G C h=>?_) (λcdv A outer s H E G0 C0 hr hE=>?_)
 ·obtain⟨_,A,S,i,rfl,_⟩:=h; rfl
 ·refine⟨_,(zaC (zbg (zb7 (zb6 (qv 0) MB_Room_voter_at hr (zdY hE) (qa (qv 1) qa0)) M_Voter_voted hr))),λts h=>?_⟩
  obtain⟨rfl,A,S,i,rfl,R,hi⟩:=h
  simp[zaB,wOp,zas,wC,iI0,zad,wCB,zah,zat,zaj,zaz,zai,zdp]
  refine zaf (R.at' .r trivial) rfl ?_
  exact⟨⟨rfl,A,S,i,rfl,R,hi⟩,zf3⟩
def zcj(Z:Cz):zff:=λts G C=>C=Z.xA/\∃ (A:Adr) (S:P.R) (i:Int) (l:T),ts=[.ref (A .r),.int i,l]/\RoomAt Z G A S/\zjY S.wishes.length i
theorem zgk{f:Addr}{fd:FuncData}(F:Fun K "begin" "Room.begin" zbU f fd) (aT:At K Z) (xs:Xs K mg Z) (M_Asker_begin:za6 Pg w K mg base 2 Z.A "begin" ["self","least"] (zbN Z)) (MB_Room_asker_at:zbp Pg w K mg base 1 Z.R "asker_at" ["self","asker"] (zaV Z)):BOk Pg w K mg base 3 f fd ["self","asker","least"] (zcj Z):=by
 refine okB F zcc (λts G C h=>?_) (λcdv A outer s H E G0 C0 hr hE=>?_)
 ·obtain⟨_,A,S,i,l,rfl,_⟩:=h; rfl
 ·refine⟨_,(qss (zeH 3 zcc.nd (zb2 (zb6 (qv 0) (MB_Room_asker_at.mono (by decide:1<=2)) hr (zdY hE) (qa (qv 1) qa0)) M_Asker_begin hr (qa (qv 2) qa0)))
   zeI),λts h=>?_⟩
  obtain⟨rfl,A,S,i,l,rfl,R,hi⟩:=h
  simp[zaG,wOp,zas,wC,iI0,zad,wCB,zah,zat,zaj,zaZ,zaW,zai,zbh,zdp]
  refine zaf (R.at' .r trivial) rfl ?_
  exact⟨⟨rfl,A,S,i,rfl,R,hi⟩,zf3⟩
def zdK(Z:Cz):zff:=λts G C=>C=Z.xA/\∃ (A:Adr) (S:P.R) (i:Int),ts=[.ref (A .r),.int i]/\RoomAt Z G A S/\S.letters.length<=100000/\zjY S.wishes.length i
abbrev zdj:Stmt:=zav (top 27) 12
theorem zeZ:FnScope ["self","asker","ballot","letter"] ["self","asker"] (zac zdj):=by walk_at "s"
theorem zhh{f:Addr}{fd:FuncData}(F:Fun K "calm" "Room.calm" zdj f fd) (aT:At K Z) (xs:Xs K mg Z) (M_Pile_beyond:za6 Pg w K mg base 1 Z.P "beyond" ["self"] (zcQ Z)) (MB_Room_begin:zbp Pg w K mg base 3 Z.R "begin" ["self","asker","least"] (zcj Z)):BOk Pg w K mg base 4 f fd ["self","asker"] (zdK Z):=by
 refine okB F zeZ (λts G C h=>?_) (λcdv A outer s H E G0 C0 hr hE=>?_)
 ·obtain⟨_,A,S,i,rfl,_⟩:=h; rfl
 ·refine⟨_,(qss (zeH 2 zeZ.nd (zb6 (qv 0) MB_Room_begin hr (zdY hE) (qa (qv 1) (qa (zb7 (zbW (qv 0)) (M_Pile_beyond.mono (by decide:1<=3)) hr) qa0))))
   zeI),λts h=>?_⟩
  obtain⟨rfl,A,S,i,rfl,R,hl,hi⟩:=h
  simp[zaG,wOp,zas,wC,iI0,zad,wCB,zah,zat,zaj,zaZ,zbC,zaz,zai,zbh,zdp]
  refine zaf (R.at' .r trivial) rfl ?_
  refine zag (R.at' .r trivial) zdN aT.pile ?_
  refine zaf (R.at' .p trivial) rfl ?_
  exact⟨_,_,_,S.letters,rfl,R.at' .p trivial,R.at' .pr trivial,hl,λG' x=>⟨⟨rfl,A,S,i,_,rfl,R.ext x,hi⟩,x⟩⟩
def zcS(Z:Cz):zff:=λts G C=>C=Z.xL/\∃ (A:Adr) (S:P.R) (i:Int) (v:T),ts=[.ref (A .r),.int i,v]/\RoomAt Z G A S/\zjY S.letters.length i
theorem zfD{f:Addr}{fd:FuncData}(F:Fun K "bring" "Room.bring" zbq f fd) (aT:At K Z) (xs:Xs K mg Z) (MB_Pile_letter_at:zbp Pg w K mg base 1 Z.P "letter_at" ["self","k"] (zbI Z)):BOk Pg w K mg base 2 f fd ["self","k","voter"] (zcS Z):=by
 refine okB F zbc (λts G C h=>?_) (λcdv A outer s H E G0 C0 hr hE=>?_)
 ·obtain⟨_,A,S,i,v,rfl,_⟩:=h; rfl
 ·refine⟨_,(qss (zeH 3 zbc.nd (zb6 (zbW (qv 0)) MB_Pile_letter_at hr (zdY hE) (qa (qv 1) qa0)))
   zeI),λts h=>?_⟩
  obtain⟨rfl,A,S,i,v,rfl,R,hi⟩:=h
  simp[zaG,wOp,zas,wC,iI0,zad,wCB,zah,zat,zaj,zaZ,zbC,zai,zbh,zdp]
  refine zag (R.at' .r trivial) zdN aT.pile ?_
  refine zaf (R.at' .p trivial) rfl ?_
  exact⟨⟨rfl,_,_,_,_,i,rfl,R.at' .p trivial,R.at' .pr trivial,by rw[List.length_map]; exact hi⟩,zf3⟩
def zcR(Z:Cz):zff:=λts G C=>C=Z.xV/\∃ (A:Adr) (S:P.R) (k:Nat) (i:Int),ts=[.ref (A .r),.int k,.int i]/\RoomAt Z G A S/\k < S.letters.length/\zjY S.many i
theorem zfC{f:Addr}{fd:FuncData}(F:Fun K "bring" "Room.bring" zbq f fd) (aT:At K Z) (xs:Xs K mg Z) (M_Pile_letter_at:za6 Pg w K mg base 1 Z.P "letter_at" ["self","k"] (zba Z)) (M_Room_come:za6 Pg w K mg base 4 Z.R "come" ["self","letter","voter"] (zcx Z)) (MB_Room_voter_at:zbp Pg w K mg base 1 Z.R "voter_at" ["self","voter"] (zaU Z)):BOk Pg w K mg base 5 f fd ["self","k","voter"] (zcR Z):=by
 refine okB F zbc (λts G C h=>?_) (λcdv A outer s H E G0 C0 hr hE=>?_)
 ·obtain⟨_,A,S,k,i,rfl,_⟩:=h; rfl
 ·refine⟨_,(qss (zeH 3 zbc.nd (zb2 (zbW (qv 0)) (M_Pile_letter_at.mono (by decide:1<=4)) hr (qa (qv 1) qa0)))
   (zaC (zeJ (zb2 (qv 0) M_Room_come hr (qa (qv 3) (qa (zb6 (qv 0) (MB_Room_voter_at.mono (by decide:1<=4)) hr (zdY hE) (qa (qv 2) qa0)) qa0)))))),λts h=>?_⟩
  obtain⟨rfl,A,S,k,i,rfl,R,hk,hi⟩:=h
  simp[zaG,wOp,zas,wC,iI0,zad,wCB,zah,zat,zaj,zaZ,zbC,zaW,zbA,zai,zdp]
  refine zag (R.at' .r trivial) zdN aT.pile ?_
  refine zaf (R.at' .p trivial) rfl ?_
  refine⟨_,_,_,_,zbB S.letters[k],k,rfl,R.at' .p trivial,R.at' .pr trivial,by simp[hk],?_⟩
  refine zaf (R.at' .r trivial) rfl ?_
  refine zaf (R.at' .r trivial) rfl ?_
  exact⟨⟨rfl,A,S,i,rfl,R,hi⟩,zf3⟩
def BadW(S:P.R)(way num:Int):Prop:=(0<=way/\way < 4/\zjY S.wishes.length num)∨(4<=way/\way < 7/\zjY S.many num/\0 < S.letters.length)∨(way=7/\zjY S.letters.length num)
def xOf(Z:Cz)(way:Int):Addr:=if way < 4 then Z.xA else if way < 7 then Z.xV else Z.xL
noncomputable def zgb(way:Int):List T:=[.bl (decide (way < 4)),.bl (decide (3 < way)&&decide (way < 7)),.bl (decide (way=7)),.bl true]
def zd3(Z:Cz):zff:=λts G C=>∃ (A:Adr) (S:P.R) (way num:Int),ts=[.ref (A .r),.int way,.int num]/\RoomAt Z G A S/\S.letters.length<=100000/\BadW S way num/\C=xOf Z way
abbrev zdR:Stmt:=top 38
theorem ziG:FnScope ["_law_room","_law_way","_law_number"] ["_law_room","_law_way","_law_number"] (zac zdR):=by walk_at "s"
theorem zhY{f:Addr}{fd:FuncData}(F:Fun K "_law_try" "_law_try" zdR f fd) (aT:At K Z) (xs:Xs K mg Z) (MB_Room_ballot_of:zbp Pg w K mg base 2 Z.R "ballot_of" ["self","asker"] (zbH Z)) (MB_Room_begin:zbp Pg w K mg base 3 Z.R "begin" ["self","asker","least"] (zcj Z)) (MB_Room_bringK:zbp Pg w K mg base 2 Z.R "bring" ["self","k","voter"] (zcS Z)) (MB_Room_bringV:zbp Pg w K mg base 5 Z.R "bring" ["self","k","voter"] (zcR Z)) (MB_Room_calm:zbp Pg w K mg base 4 Z.R "calm" ["self","asker"] (zdK Z)) (MB_Room_fall:zbp Pg w K mg base 2 Z.R "fall" ["self","asker"] (zdJ Z)) (MB_Room_promised:zbp Pg w K mg base 2 Z.R "promised" ["self","voter"] (zb1 Z)) (MB_Room_voted:zbp Pg w K mg base 2 Z.R "voted" ["self","voter"] (zdk Z)):BOk Pg w K mg base 6 f fd ["_law_room","_law_way","_law_number"] (zd3 Z):=by
 refine okB F ziG (λts G C h=>?_) (λcdv A outer s H E G0 C0 hr hE=>?_)
 ·obtain⟨A,S,way,num,rfl,_⟩:=h; rfl
 ·refine⟨_,(qss (zdX (zhx hr (qv 1) zaA) (zaC (zbg (zb6 (qv 0) (MB_Room_begin.mono (by decide:3<=5)) hr (zdY hE) (qa (qv 2) (qa zaA qa0))))) zar)
   (qss (zdX (zhx hr (qv 1) zaA) (zaC (zbg (zb6 (qv 0) (MB_Room_fall.mono (by decide:2<=5)) hr (zdY hE) (qa (qv 2) qa0)))) zar)
   (qss (zdX (zhx hr (qv 1) zaA) (zaC (zbg (zb6 (qv 0) (MB_Room_ballot_of.mono (by decide:2<=5)) hr (zdY hE) (qa (qv 2) qa0)))) zar)
   (qss (zdX (zhx hr (qv 1) zaA) (zaC (zbg (zb6 (qv 0) (MB_Room_calm.mono (by decide:4<=5)) hr (zdY hE) (qa (qv 2) qa0)))) zar)
   (qss (zdX (zhx hr (qv 1) zaA) (zaC (zbg (zb6 (qv 0) (MB_Room_promised.mono (by decide:2<=5)) hr (zdY hE) (qa (qv 2) qa0)))) zar)
   (qss (zdX (zhx hr (qv 1) zaA) (zaC (zbg (zb6 (qv 0) (MB_Room_voted.mono (by decide:2<=5)) hr (zdY hE) (qa (qv 2) qa0)))) zar)
   (qss (zdX (zhx hr (qv 1) zaA) (zaC (zbg (zb6 (qv 0) MB_Room_bringV hr (zdY hE) (qa zaA (qa (qv 2) qa0))))) zar)
   (zaC (zbg (zb6 (qv 0) (MB_Room_bringK.mono (by decide:2<=5)) hr (zdY hE) (qa (qv 2) (qa (qneg zaA) qa0)))))))))))),λts h=>?_⟩
  obtain⟨A,S,way,num,rfl,R,hl,hw,rfl⟩:=h
  simp[zaG,zaY,zan,zaB,wOp,zas,wC,iI0,zad,wCB,zah,zat,zaj,zai,zdp,wD,toD,eqvI]
  rcases hw with ⟨h0,h1,hb⟩ | ⟨h0,h1,hb,hp⟩ | ⟨rfl,hb⟩
  ·have ex:xOf Z way=Z.xA:=if_pos h1
   rw[ex]
   obtain rfl | rfl | rfl | rfl:way=0∨way=1∨way=2∨way=3:=by lia
   ·refine Eq.mpr (if_pos rfl) ?_
    exact zaf (R.at' .r trivial) rfl ⟨⟨rfl,A,S,num,_,rfl,R,hb⟩,zf3⟩
   ·refine Eq.mpr (if_neg (by decide)) ?_
    refine Eq.mpr (if_pos rfl) ?_
    exact zaf (R.at' .r trivial) rfl ⟨⟨rfl,A,S,num,rfl,R,hb⟩,zf3⟩
   ·refine Eq.mpr (if_neg (by decide)) ?_
    refine Eq.mpr (if_neg (by decide)) ?_
    refine Eq.mpr (if_pos rfl) ?_
    exact zaf (R.at' .r trivial) rfl ⟨⟨rfl,A,S,num,rfl,R,hb⟩,zf3⟩
   ·refine Eq.mpr (if_neg (by decide)) ?_
    refine Eq.mpr (if_neg (by decide)) ?_
    refine Eq.mpr (if_neg (by decide)) ?_
    refine Eq.mpr (if_pos rfl) ?_
    exact zaf (R.at' .r trivial) rfl ⟨⟨rfl,A,S,num,rfl,R,hl,hb⟩,zf3⟩
  ·have ex:xOf Z way=Z.xV:=by unfold xOf; rw[if_neg (by lia),if_pos h1]
   rw[ex]
   obtain rfl | rfl | rfl:way=4∨way=5∨way=6:=by lia
   ·refine Eq.mpr (if_neg (by decide)) ?_
    refine Eq.mpr (if_neg (by decide)) ?_
    refine Eq.mpr (if_neg (by decide)) ?_
    refine Eq.mpr (if_neg (by decide)) ?_
    refine Eq.mpr (if_pos rfl) ?_
    exact zaf (R.at' .r trivial) rfl ⟨⟨rfl,A,S,num,rfl,R,hb⟩,zf3⟩
   ·refine Eq.mpr (if_neg (by decide)) ?_
    refine Eq.mpr (if_neg (by decide)) ?_
    refine Eq.mpr (if_neg (by decide)) ?_
    refine Eq.mpr (if_neg (by decide)) ?_
    refine Eq.mpr (if_neg (by decide)) ?_
    refine Eq.mpr (if_pos rfl) ?_
    exact zaf (R.at' .r trivial) rfl ⟨⟨rfl,A,S,num,rfl,R,hb⟩,zf3⟩
   ·refine Eq.mpr (if_neg (by decide)) ?_
    refine Eq.mpr (if_neg (by decide)) ?_
    refine Eq.mpr (if_neg (by decide)) ?_
    refine Eq.mpr (if_neg (by decide)) ?_
    refine Eq.mpr (if_neg (by decide)) ?_
    refine Eq.mpr (if_neg (by decide)) ?_
    refine Eq.mpr (if_pos rfl) ?_
    exact zaf (R.at' .r trivial) rfl ⟨⟨rfl,A,S,0,num,rfl,R,hp,hb⟩,zf3⟩
  ·have ex:xOf Z 7=Z.xL:=by unfold xOf; rw[if_neg (by lia),if_neg (by lia)]
   rw[ex]
   refine Eq.mpr (if_neg (by decide)) ?_
   refine Eq.mpr (if_neg (by decide)) ?_
   refine Eq.mpr (if_neg (by decide)) ?_
   refine Eq.mpr (if_neg (by decide)) ?_
   refine Eq.mpr (if_neg (by decide)) ?_
   refine Eq.mpr (if_neg (by decide)) ?_
   refine Eq.mpr (if_neg (by decide)) ?_
   exact zaf (R.at' .r trivial) rfl ⟨⟨rfl,A,S,num,_,rfl,R,hb⟩,zf3⟩
theorem xs_way{S:P.R}{way num:Int}(xs:Xs K mg Z)(hw:BadW S way num):W.exmOne K (.ref (xOf Z way)) (.ref Z.xR)=some true/\XCls K (xOf Z way)/\W.kitOne K (.ref (xOf Z way)) (.ref Z.xA)=some (decide (way < 4)) /\
  W.kitOne K (.ref (xOf Z way)) (.ref Z.xV)=some (decide (3 < way)&&decide (way < 7))/\W.kitOne K (.ref (xOf Z way)) (.ref Z.xL)=some (decide (way=7))/\W.kitOne K (.ref (xOf Z way)) (.type "ValueError")=some true:=by
 rcases hw with ⟨h0,h1,_⟩ | ⟨h0,h1,_⟩ | ⟨rfl,_⟩
 ·have ex:xOf Z way=Z.xA:=if_pos h1
  rw[ex,decide_eq_true h1,decide_eq_false (show ¬ 3 < way by lia),decide_eq_false (show ¬ way=7 by lia),Bool.false_and]
  exact⟨xs.rA,xs.cA,xs.kA⟩
 ·have ex:xOf Z way=Z.xV:=by unfold xOf; rw[if_neg (by lia),if_pos h1]
  rw[ex,decide_eq_true h1,decide_eq_true (show 3 < way by lia),decide_eq_false (show ¬ way < 4 by lia),decide_eq_false (show ¬ way=7 by lia),Bool.true_and]
  exact⟨xs.rV,xs.cV,xs.kV⟩
 ·have ex:xOf Z 7=Z.xL:=by unfold xOf; rw[if_neg (by lia),if_neg (by lia)]
  rw[ex]
  exact⟨xs.rL,xs.cL,xs.kL⟩
def zdD(Z:Cz):Sp3:=λts G Q=>∃ (A:Adr) (S:P.R) (way num:Int),ts=[.ref (A .r),.int way,.int num]/\RoomAt Z G A S/\S.letters.length<=100000/\BadW S way num/\∀ l,G l=none->Q (.ref l) (updG G l (.lst (zgb way)))
abbrev zde:Stmt:=top 39
theorem zcy:FnScope ["_law_room","_law_way","_law_number","_law_told","e"] ["_law_room","_law_way","_law_number"] (zac zde):=by walk_at "s"
theorem zhQ{f:Addr}{fd:FuncData}(F:Fun K "_law_said" "_law_said" zde f fd) (aT:At K Z) (b_ValueError:mg "ValueError"=none) (b_isinstance:mg "isinstance"=none) (xs:Xs K mg Z) (FB__law_try:FnAtB Pg w K mg base 6 "_law_try" ["_law_room","_law_way","_law_number"] (zd3 Z)):FOk Pg w K mg base 7 f fd ["_law_room","_law_way","_law_number"] (zdD Z):=by
 refine ok3 F zcy (λts G Q h=>?_) (λcdv A outer s H E hr=>?_)
 ·obtain⟨A,S,way,num,rfl,_⟩:=h; rfl
 ·refine⟨_,(qss (zeH 3 zcy.nd qstr)
   (qss (ccatch (i:=4) FB__law_try hr (qa (qv 0) (qa (qv 1) (qa (qv 2) qa0))) xs.gR zcy.nd λea oe=>(zaC (zeH 3 zcy.nd (qlst (qa (qisE 4 xs.kt b_isinstance xs.gA) (qa (qisE 4 xs.kt b_isinstance xs.gV) (qa (qisE 4 xs.kt b_isinstance xs.gL) (qa (qisET 4 xs.kt b_isinstance b_ValueError zfW) qa0))))))))
   (zaC (zbg (qv 3))))),λts G Q h=>?_⟩
  obtain⟨A,S,way,num,rfl,R,hl,hw,h⟩:=h
  have key:=xs_way xs hw
  simp[zaG,zaB,wOp,zas,wC,iI0,zad,wCB,zah,zat,zaj,zaZ,zcM,zai,zjh]
  refine⟨xOf Z way,⟨A,S,way,num,rfl,R,hl,hw,rfl⟩,key.1,λea oe ec=>?_⟩
  exact⟨rfl,_,_,ec,key.2.1,key.2.2.1,rfl,_,_,ec,key.2.1,key.2.2.2.1,rfl,_,_,ec,key.2.1,key.2.2.2.2.1,rfl,_,_,ec,key.2.1,key.2.2.2.2.2,h⟩
theorem zjG{G:Gp}{Q:VK3}{us:List T}(k:Q (.int us.length) G):zaX [.tup us] G Q:=k
theorem toD_pairs(G:Gp)(n:Nat)(qs:List (Int×Int)):toD G (n+2) (.tup (qs.map pT))=some (.tuple (qs.map pD)):=by
 simp only[toD]
 rw[zfn (g:=pT) (k:=pD) (λx=>by simp[pT,pD,toD,zd8]) qs]
 rfl
noncomputable def shD(S:P.R)(k:Nat):PyData:=.list ([.list ((srtL S.letters).map letD),.tuple ((zbF (P.won S.letters S.many)).map pD),oD (zhA (zbF (P.won S.letters S.many))),.list ((List.range S.wishes.length).map λi=>oD (S.askers i).ballot)]++(List.range k).map (shVD S))
theorem zjT{f:T->Option PyData}:∀ {xs ys:List T} {ds es:List PyData},zd8 f xs=some ds->zd8 f ys=some es->zd8 f (xs++ys)=some (ds++es)
 | [],ys,ds,es,h,h'=>by cases h; exact h'
 | x::xs,ys,ds,es,h,h'=>by
  unfold zd8 at h
  split at h
  ·rename_i d ds1 e1 e2
   cases h
   simp only[List.cons_append,zd8,e1,zjT e2 h']
  ·cases h
theorem toD_sh{G:Gp}{p l1 l2:Addr}{S:P.R}{k:Nat}(s:Sh G p l1 l2 S k):toD G 20 (.ref p)=some (shD S k):=by
 have a1:=toD_lst (n:=18) s.b λx=>toD_letT G 16 x
 have a2:=toD_lst (n:=18) (g:=λi=>oI (S.askers i).ballot) (k:=λi=>oD (S.askers i).ballot) (l:=List.range S.wishes.length) s.c λv=>zjl _ _ _
 have a3:=toD_pairs G 17 (zbF (P.won S.letters S.many))
 have a4:zd8 (toD G 19) ((List.range k).map (shV S))=some ((List.range k).map (shVD S)):=zfn (g:=shV S) (k:=shVD S) (λv=>by simp[shV,shVD,toD,zd8,zjl,toD_oP]) _
 show(match G p with | some (.lst ts)=>(zd8 (toD G 19) ts).map PyData.list | _=>none)=_
 rw[s.a]
 show(zd8 (toD G 19) (shnL S l1 l2 k)).map PyData.list=_
 unfold shnL
 rw[zjT (ds:=[.list ((srtL S.letters).map letD),.tuple ((zbF (P.won S.letters S.many)).map pD),oD (zhA (zbF (P.won S.letters S.many))),.list ((List.range S.wishes.length).map λi=>oD (S.askers i).ballot)]) (by simp only[zd8,a1,a2,a3,zjl]) a4]
 rfl
theorem eq_same'{G:Gp}{x y:T}{d:PyData}{Q:VK3}(h1:toD G 20 x=some d)(h2:toD G 20 y=some d)(q:Q (.bl true) G):wD PyData.eqv x y G Q:=by
 simp only[wD,h1,h2]
 rw[zjk 20 x d h1]
 exact q
theorem Sh.fr{G G':Gp}{A A':Adr}{S0 S1 S:P.R}{p l1 l2:Addr}{k:Nat}(s:Sh G p l1 l2 S k)(F:Fr G A S0 G' A' S1)(op:¬ own A S0 p)(o1:¬ own A S0 l1)(o2:¬ own A S0 l2):Sh G' p l1 l2 S k :=
 ⟨(F _ _ op s.a).1,(F _ _ o1 s.b).1,(F _ _ o2 s.c).1⟩
theorem chain37{τ:St3}{G:Gp}{Q:VK3}{j:Int}(e:τ[6]?=some (some (.int j)))(q:Q (.bl (decide (3 < j)&&decide (j < 7))) G) :
  zjg (iI0 λi j=>T.bl (decide (i < j))) (iI0 λi j=>T.bl (decide (i < j))) (wC (T.int 3)) (zas 6) (wC (T.int 7)) τ G Q:=by
 simp only[zjg,wC,zas,e,iI0]
 by_cases c:3 < j
 ·simp only[c,decide_true,Bool.true_and]at q
  simp[c]
  exact q
 ·simp only[c,decide_false,Bool.false_and]at q
  simp[c]
  exact q
noncomputable def limI(S:P.R)(k:Nat):Int:=if k < 4 then S.wishes.length else if k < 7 then S.many else S.letters.length
theorem badW_lim{S:P.R}{k:Nat}(hk:k < 8)(hl:0 < S.letters.length){num:Int}(h:num < 0∨limI S k<=num):BadW S k num:=by
 unfold limI at h
 by_cases c1:k < 4
 ·rw[if_pos c1]at h
  exact .inl ⟨by lia,by lia,h⟩
 ·rw[if_neg c1]at h
  by_cases c2:k < 7
  ·rw[if_pos c2]at h
   exact .inr (.inl ⟨by lia,by lia,h,hl⟩)
  ·rw[if_neg c2]at h
   exact .inr (.inr ⟨by lia,h⟩)
theorem lim_get{S:P.R}{k:Nat}(hk:k < 8):[T.int S.wishes.length,T.int S.wishes.length,T.int S.wishes.length,T.int S.wishes.length,T.int S.many,T.int S.many,T.int S.many,T.int S.letters.length][k]?=some (.int (limI S k)):=by
 match k,hk with
 | 0,_=>rfl
 | 1,_=>rfl
 | 2,_=>rfl
 | 3,_=>rfl
 | 4,_=>rfl
 | 5,_=>rfl
 | 6,_=>rfl
 | 7,_=>rfl
theorem zjj{G:Gp}{l:Addr}{k:Int}(h:G l=some (.lst (zgb k))):toD G 20 (.ref l)=some (.list [.bool (decide (k < 4)),.bool (decide (3 < k)&&decide (k < 7)),.bool (decide (k=7)),.bool true]):=by
 simp[toD,h,zgb,zd8]
def sp_law(Z:Cz):Sp3:=zhF Z.T lamQ lamP
abbrev s_law:Stmt:=top 40
theorem zd1:FnScope ["_law_script","_law_askers","_law_many_here","_law_room","_law_before","_law_by","_law_way","_law_beyond","_law_due","_law_bad"] ["_law_script"] (zac s_law):=by walk_at "s"
theorem ok_law{f:Addr}{fd:FuncData}(F:Fun K "law" "law" s_law f fd) (aT:At K Z) (b_len:mg "len"=none) (b_range:mg "range"=none) (F__law_cell:zck Pg w K mg base 1 "_law_cell" ["_law_script","_law_k"] (zbR Z)) (F__law_many:zck Pg w K mg base 2 "_law_many" ["_law_script"] (zcw Z)) (F__law_play:zck Pg w K mg base 7 "_law_play" ["_law_room","_law_script","_law_cells"] (zdE Z)) (F__law_said:zck Pg w K mg base 7 "_law_said" ["_law_room","_law_way","_law_number"] (zdD Z)) (F__law_shown:zck Pg w K mg base 5 "_law_shown" ["_law_room","_law_askers","_law_many_here"] (zc8 Z)) (F__law_wishes:zck Pg w K mg base 2 "_law_wishes" ["_law_script"] (zbK Z)) (M_Room_begin:za6 Pg w K mg base 3 Z.R "begin" ["self","asker","least"] (zca Z)) (M_Room_letters:za6 Pg w K mg base 2 Z.R "letters" ["self"] (za1 Z)) (N_Room:MkAt Pg w K mg base 3 "Room" Z.R ["self","wishes","many"] (zbZ Z)):FOk Pg w K mg base 8 f fd ["_law_script"] (sp_law Z):=by
 refine ok3 F zd1 (λts G Q h=>?_) (λcdv A outer s H E hr=>?_)
 ·obtain⟨ns,rfl,_⟩:=h; rfl
 ·refine⟨_,(qss (zeH 1 zd1.nd (zdw b_len (qa (zbf (F__law_wishes.mono (by decide:2<=7)) hr (qa (qv 0) qa0)) qa0)))
   (qss (zeH 2 zd1.nd (zbf (F__law_many.mono (by decide:2<=7)) hr (qa (qv 0) qa0)))
   (qss (zeH 3 zd1.nd (cmake (N_Room.mono (by decide:3<=6)) hr (qa (zbf (F__law_wishes.mono (by decide:2<=7)) hr (qa (qv 0) qa0)) (qa (qv 2) qa0))))
   (qss (zeJ (zb2 (qv 3) (M_Room_begin.mono (by decide:3<=7)) hr (qa zaA (qa zaA qa0))))
   (qss (zeJ (zbf F__law_play hr (qa (qv 3) (qa (qv 0) (qa (qslice (qv 0) (qp1 zaA) (qp1 zaA)) qa0)))))
   (qss (zeH 4 zd1.nd (zbf (F__law_shown.mono (by decide:5<=7)) hr (qa (qv 3) (qa (qv 1) (qa (qv 2) qa0)))))
   (qss (zeH 5 zd1.nd (qmod (zbf (F__law_cell.mono (by decide:1<=7)) hr (qa (qv 0) (qa zaA qa0))) (qpow zaA zaA)))
   (qss (qfor (qi_r1 b_range (qa zaA qa0)) (zbV 6 zd1.nd) (qss (zeH 7 zd1.nd (zdz hr (qlst (qa (qv 1) (qa (qv 1) (qa (qv 1) (qa (qv 1) (qa (qv 2) (qa (qv 2) (qa (qv 2) (qa (zdw b_len (qa (zb7 (qv 3) (M_Room_letters.mono (by decide:2<=7)) hr) qa0)) qa0))))))))) (qv 6)))
   (qss (zeH 8 zd1.nd (qlst (qa (qlt (qv 6) zaA) (qa (qchain c_lt c_lt zaA (qv 6) zaA) (qa (qeq hr (qv 6) zaA) (qa qbl qa0))))))
   (zaC (qfor (zgu (qlst (qa (qneg zaA) (qa (qsub (qneg zaA) (qv 5)) (qa (qv 7) (qa (qadd (qv 7) (qv 5)) qa0)))))) (zbV 9 zd1.nd) (zaC (zdX (qtne hr (zbf F__law_said hr (qa (qv 3) (qa (qv 6) (qa (qv 9) qa0)))) (qv 8)) (zaC (zbg qbl)) zar)))))))
   (zaC (zbg (qeq hr (zbf (F__law_shown.mono (by decide:5<=7)) hr (qa (qv 3) (qa (qv 1) (qa (qv 2) qa0)))) (qv 4)))))))))))),λts G Q h=>?_⟩
  obtain⟨ns,rfl,hlen,gT,h⟩:=h
  have hwl:=zhB ns
  have hmn:=zh1 ns
  simp[zaG,zaY,zan,zaB,wOp,zas,wC,iI,iI0,zad,wCB,zah,zat,zaj,zaZ,zaw,zcM,zaW,zaz,zcL,zbA,zaH,iR1,zai,zcX,wP1,zb4,zeq]
  refine⟨ns,rfl,λG1 x1=>?_⟩
  refine zjG ?_
  simp only[List.length_map]
  refine⟨ns,rfl,?_⟩
  refine⟨ns,rfl,λG2 x2=>?_⟩
  intro r1 hr1
  refine⟨r1,zcW ns,manyN ns,rfl,zaa,by lia,by lia,λA0 G3 er1 R1 F1=>?_⟩
  dsimp only
  have gT2:=x2 _ _ (x1 _ _ gT)
  have nTr:Z.T≠r1:=neG gT2 hr1
  have gT3:G3 Z.T=some (.tab lamQ lamP):=(F1 _ _ nTr (by rw[zab nTr]; exact gT2)).1
  refine zaf (er1 ▸ R1.at' .r trivial) rfl ?_
  refine⟨A0,P.new (zcW ns) (manyN ns),0,0,by rw[er1]; rfl,R1,hwl.1,by simp[P.new],λA1 G4 ea1 R4 F4=>?_⟩
  have okB:P.Ok 1 ((P.new (zcW ns) (manyN ns)).begin 0 0):=(P.Ok.new hwl.1 hmn.2).begin (show 0 < (zcW ns).length from hwl.1) (Int.le_refl 0)
  have gT4:=(F4 _ _ (R1.notab gT3) gT3).1
  have hlp:0 < ((P.new (zcW ns) (manyN ns)).begin 0 0).letters.length:=by
   simp[P.R.begin,P.R.write,P.new,P.R.setA,M.write]
  have ewB:((P.new (zcW ns) (manyN ns)).begin 0 0).wishes=zcW ns:=rfl
  have emB:((P.new (zcW ns) (manyN ns)).begin 0 0).many=manyN ns:=rfl
  generalize (P.new (zcW ns) (manyN ns)).begin 0 0=S1 at R4 F4 okB hlp ewB emB
  have hcut:cutT (ns.map T.int) (some 2) (some 40)=((ns.drop (HT.sIx ns.length 0 (some 2))).take (HT.sIx ns.length ns.length (some 40) - HT.sIx ns.length 0 (some 2))).map T.int:=by
   unfold cutT; simp[List.map_drop,List.map_take]
  have hcsl:((ns.drop (HT.sIx ns.length 0 (some 2))).take (HT.sIx ns.length ns.length (some 40) - HT.sIx ns.length 0 (some 2))).length<=40:=by
   rw[List.length_take,List.length_drop]
   simp only[HT.sIx]
   split<;>split<;>lia
  generalize (ns.drop (HT.sIx ns.length 0 (some 2))).take (HT.sIx ns.length ns.length (some 40) - HT.sIx ns.length 0 (some 2))=cs at hcut hcsl
  intro cl hcl
  rw[hcut]
  have xc:=Ext.new (o:=.lst (cs.map T.int)) hcl
  refine⟨ns,cs,cl,1,A1,S1,by rw[ea1,er1],zaa,R4.free hcl,R4.ext xc,okB,by lia,ewB,emB,λA2 G5 l5 ea2 R5 F5 ok5 g5=>?_⟩
  have gT5:=(F5 _ _ ((R4.ext xc).notab (xc _ _ gT4)) (xc _ _ gT4)).1
  generalize cellsR S1 cs=S5 at R5 F5 ok5 g5
  have ew:S5.wishes=zcW ns:=g5.w.trans ewB
  have em:S5.many=manyN ns:=g5.m.trans emB
  have hl5:0 < S5.letters.length:=nLl hlp g5.l.length_le
  have hln:=ok5.ln
  refine⟨1+cs.length,A2,S5,by rw[ea2,ea1,er1,ew,em],R5,ok5,by lia,by rw[ew]; lia,gT5,λG6 p l1 l2 x6 hp hl1 hl2 sh=>?_⟩
  refine⟨ns,1,rfl,?_⟩
  refine⟨⟨by lia,by lia,by decide⟩,?_⟩
  dsimp only
  refine⟨by lia,?_⟩
  have hby:0<=cellI ns 1 % 100000000000000000000:=Int.emod_nonneg _ (by lia)
  generalize cellI ns 1 % 100000000000000000000=bY at hby ⊢
  have ea:A2 .r=r1:=by rw[ea2,ea1,er1]
  have R6:=R5.ext x6
  have t6:=x6 _ _ gT5
  simp only[wFor,iR1,zah,wC,zat]
  refine⟨⟨by lia,by lia⟩,?_⟩
  refine zdm (J:=λq τ G7=>∃ (k:Nat) (o6 o7 o8 o9:Option T),q=(zcH 0 8).drop k/\k<=8/\τ=[some (.fro (ns.map T.int)),some (.int (zcW ns).length),some (.int (manyN ns)),some (.ref r1),some (.ref p),some (.int bY),o6,o7,o8,o9]/\RoomAt Z G7 A2 S5/\Sh G7 p l1 l2 S5 S5.many/\G7 Z.T=some (.tab lamQ lamP))
   (λq τ G7 j=>trivial) (λτ G7 j=>?_) (λx q τ G7 N hN j=>?_) _ _ _ ⟨0,_,_,_,_,rfl,by lia,rfl,R6,sh,t6⟩
  ·obtain⟨k,o6,o7,o8,o9,eq,hk,rfl,R7,sh7,t7⟩:=j
   simp[zaG,zaY,zan,zaB,wOp,zas,wC,iI,iI0,zad,wCB,zah,zat,zaj,zaZ,zaw,zcM,zaW,zaz,zcL,zbA,zaH,iR1,zai,zcX,wP1,zb4,zeq]
   refine⟨1+cs.length,A2,S5,by rw[ea,ew,em],R7,ok5,by lia,by rw[ew]; lia,t7,λG8 p' l1' l2' x8 hp' hl1' hl2' sh'=>?_⟩
   exact eq_same' (toD_sh sh') (toD_sh (sh7.ext x8)) (h _)
  ·obtain⟨k,o6,o7,o8,o9,eq,hk,rfl,R7,sh7,t7⟩:=j
   have hkm:k < 8:=by
    have:=congrArg List.length eq
    simp[zcH]at this; lia
   have hkl:k < (zcH 0 8).length:=by simpa [zcH] using hkm
   have ex:(zcH 0 8)[k]=.int k:=by simp[zcH]
   rw[List.drop_eq_getElem_cons hkl,ex]at eq
   cases eq
   simp[zaG,zaY,zan,zaB,wOp,zas,wC,iI,iI0,zad,wCB,zah,zat,zaj,zaZ,zaw,zcM,zaW,zaz,zcL,zbA,zaH,iR1,zai,zcX,wP1,zb4,zeq]
   refine zaf (ea ▸ R7.at' .r trivial) rfl ?_
   refine⟨A2,S5,by rw[ea],R7,?_⟩
   refine zjG ?_
   simp only[List.length_map]
   intro lb hlb
   rw[<- ew,<- em]
   refine ixA_lst zaa (lim_get hkm) ?_
   refine chain37 rfl ?_
   simp only[wD,toD,eqvI]
   intro dl hdl
   have x8:=Ext.new (o:=.lst [T.int S5.wishes.length,T.int S5.wishes.length,T.int S5.wishes.length,T.int S5.wishes.length,T.int S5.many,T.int S5.many,T.int S5.many,T.int S5.letters.length]) hlb
   have x9:=x8.trans (Ext.new (o:=.lst (zgb k)) hdl)
   have hd9:updG (updG G7 lb (.lst [T.int S5.wishes.length,T.int S5.wishes.length,T.int S5.wishes.length,T.int S5.wishes.length,T.int S5.many,T.int S5.many,T.int S5.many,T.int S5.letters.length])) dl (.lst (zgb k)) dl=some (.lst (zgb k)):=zaa
   rw[show[T.bl (decide ((k:Int) < 4)),T.bl (decide (3 < (k:Int))&&decide ((k:Int) < 7)),T.bl (decide ((k:Int)=7)),T.bl true]=zgb k from rfl]
   generalize updG (updG G7 lb (.lst [T.int S5.wishes.length,T.int S5.wishes.length,T.int S5.wishes.length,T.int S5.wishes.length,T.int S5.many,T.int S5.many,T.int S5.many,T.int S5.letters.length])) dl (.lst (zgb k))=G9 at x9 hd9 ⊢
   have R9:=R7.ext x9
   have sh9:=sh7.ext x9
   have t9:=x9 _ _ t7
   simp[zaG,zaY,zan,zaB,wOp,zas,wC,iI,iI0,zad,wCB,zah,zat,zaj,zaZ,zaw,zcM,zaW,zaz,zcL,zbA,zaH,iR1,zai,zcX,wP1,zb4,zeq,wFor]
   intro li hli
   simp only[zaa]
   have xi:=Ext.new (o:=.lst ([-1,-1 - bY,limI S5 k,limI S5 k+bY].map T.int)) hli
   refine zdm (J:=λq τ G10=>∃ (ys:List Int) (o9:Option T),q=ys.map T.int/\(∀ y∈ys,BadW S5 k y)/\τ=[some (.fro (ns.map T.int)),some (.int S5.wishes.length),some (.int S5.many),some (.ref r1),some (.ref p),some (.int bY),some (.int k),some (.int (limI S5 k)),some (.ref dl),o9] /\
     RoomAt Z G10 A2 S5/\Sh G10 p l1 l2 S5 S5.many/\G10 Z.T=some (.tab lamQ lamP)/\G10 dl=some (.lst (zgb k))/\G10 li=some (.lst ([-1,-1 - bY,limI S5 k,limI S5 k+bY].map T.int)))
    (λq τ G10 j=>?_) (λτ G10 j=>?_) (λx q τ G10 N2 hN2 j=>?_) _ _ _ ⟨[-1,-1 - bY,limI S5 k,limI S5 k+bY],_,rfl,?_,rfl,R9.ext xi,sh9.ext xi,xi _ _ t9,xi _ _ hd9,zaa⟩
   ·obtain⟨ys,o9,_,_,_,_,_,_,_,hl⟩:=j
    exact hl
   ·obtain⟨ys,o9,eq,hb,rfl,R10,sh10,t10,hd10,hl10⟩:=j
    exact hN _ _ ⟨k+1,_,_,_,_,rfl,by lia,by rw[ew,em],R10,sh10,t10⟩
   ·obtain⟨ys,o9,eq,hb,rfl,R10,sh10,t10,hd10,hl10⟩:=j
    cases ys with
    | nil=>simp at eq
    | cons y ys =>
     simp only[List.map_cons,List.cons.injEq]at eq
     obtain⟨rfl,rfl⟩:=eq
     simp[zaG,zaY,zan,zaB,wOp,zas,wC,iI,iI0,zad,wCB,zah,zat,zaj,zaZ,zaw,zcM,zaW,zaz,zcL,zbA,zaH,iR1,zai,zcX,wP1,zb4,zeq]
     refine⟨A2,S5,k,y,by rw[ea],R10,by lia,hb y (.head _),λl hl=>?_⟩
     have xl:=Ext.new (o:=.lst (zgb k)) hl
     refine ne_same (zjj zaa) (zjj (xl _ _ hd10)) ?_
     simp only[Bool.false_eq_true,if_false]
     exact hN2 _ _ ⟨ys,_,rfl,λz hz=>hb z (.tail _ hz),rfl,R10.ext xl,sh10.ext xl,xl _ _ t10,xl _ _ hd10,xl _ _ hl10⟩
   ·have hlim:0<=limI S5 k:=by unfold limI; split<;>(try split)<;>lia
    intro y hy
    refine badW_lim hkm hl5 ?_
    simp only[List.mem_cons,List.not_mem_nil,or_false]at hy
    lia
noncomputable abbrev fnS(a b:Str)(s:Stmt)(q r s':Value)(e:Option Addr)(t u:Value):FuncData:=W.fnOf a b (zfS s) (zdn s) (zac s) .none q r s' e t u
end
theorem all_mk{l:W.OpenLaw}{w:World}{K:W.Frag}{h:Heap}{mg:Str->Option Value}{xA xV xL xR cL tL fa cP cA cV cR:Addr}(X:K.In h)(G:h.Ns mainGlobals mg)(hfa:mg "law"=some (.ref fa))
  {f0 f1 f2 f3 f4 f5 f6 f7 f8 f9 f10 f11 f12 f13 f14 f15 f16 f17 f18 f19 f20 f21 f22 f23 f24 f25 f26 f27 f28 f29 f30 f31 f32 f33 f34 f35 f36 f37 f38 f39 f40 f41 f42 f43 f44 f45 f46 f47 f48 f49 f50:Addr}
  {d0 e0 d1 e1 d2 e2 d3 e3 d4 e4 d5 e5 d6 e6 d7 e7 d8 e8 d9 e9 d10 e10 d11 e11 d12 e12 d13 e13 d14 e14 d15 e15 d16 e16 d17 e17 d18 e18 d19 e19 d20 e20 d21 e21 d22 e22 d23 e23 d24 e24 d25 e25 d26 e26 d27 e27 d28 e28 d29 e29 d30 e30 d31 e31 d32 e32 d33 e33 d34 e34 d35 e35 d36 e36 d37 e37 d38 e38 d39 e39 d40 e40 d41 e41 d42 e42 d43 e43 d44 e44 d45 e45 d46 e46 d47 e47 d48 e48 d49 e49 d50 e50:Option Addr}
  {g0 g1 g2 g3 g4 g5 g6 g7 g8 g9 g10 g11 g12 g13 g14 g15 g16 g17 g18 g19 g20 g21 g22 g23 g24 g25 g26 g27 g28 g29 g30 g31 g32 g33 g34 g35 g36 g37 g38 g39 g40 g41 g42 g43 g44 g45 g46 g47 g48 g49 g50:Array (Option Value)}
  {o0 q0 r0 s0 t0 u0 o1 q1 r1 s1 t1 u1 o2 q2 r2 s2 t2 u2 o3 q3 r3 s3 t3 u3 o4 q4 r4 s4 t4 u4 o5 q5 r5 s5 t5 u5 o6 q6 r6 s6 t6 u6 o7 q7 r7 s7 t7 u7 o8 q8 r8 s8 t8 u8 o9 q9 r9 s9 t9 u9 o10 q10 r10 s10 t10 u10 o11 q11 r11 s11 t11 u11 o12 q12 r12 s12 t12 u12 o13 q13 r13 s13 t13 u13 o14 q14 r14 s14 t14 u14 o15 q15 r15 s15 t15 u15 o16 q16 r16 s16 t16 u16 o17 q17 r17 s17 t17 u17 o18 q18 r18 s18 t18 u18 o19 q19 r19 s19 t19 u19 o20 q20 r20 s20 t20 u20 o21 q21 r21 s21 t21 u21 o22 q22 r22 s22 t22 u22 o23 q23 r23 s23 t23 u23 o24 q24 r24 s24 t24 u24 o25 q25 r25 s25 t25 u25 o26 q26 r26 s26 t26 u26 o27 q27 r27 s27 t27 u27 o28 q28 r28 s28 t28 u28 o29 q29 r29 s29 t29 u29 o30 q30 r30 s30 t30 u30 o31 q31 r31 s31 t31 u31 o32 q32 r32 s32 t32 u32 o33 q33 r33 s33 t33 u33 o34 q34 r34 s34 t34 u34 o35 q35 r35 s35 t35 u35 o36 q36 r36 s36 t36 u36 o37 q37 r37 s37 t37 u37 o38 q38 r38 s38 t38 u38 o39 q39 r39 s39 t39 u39 o40 q40 r40 s40 t40 u40 o41 q41 r41 s41 t41 u41 o42 q42 r42 s42 t42 u42 o43 q43 r43 s43 t43 u43 o44 q44 r44 s44 t44 u44 o45 q45 r45 s45 u45 o46 q46 r46 s46 t46 u46 o47 q47 r47 s47 t47 u47 o48 q48 r48 s48 t48 u48 o49 q49 r49 s49 t49 u49 o50 q50 r50 s50 t50 u50:Value}
  {t_ASK:Tok}
  {t_PREPARE:Tok}
  {t_PROMISE:Tok}
  {t_VOTE:Tok}
  (CP:W.nsIn K mainGlobals "Pile"=some (some (.ref cP)))
  (pP:W.plainGet K cP Str.empty=true)
  (hP:W.hasDictIn K cP=true)
  (oP:W.plainOver K cP=true)
  (sP:W.findIn K (.ref cP) "__setattr__"=some (some (.builtin "object.__setattr__")))
  (mP:W.makesIn K cP=true)
  (kP:W.keepIn K (.ref cP)=true)
  (nP0:W.findIn K (.ref cP) "row"=some none)
  (nP1:W.findIn K (.ref cP) "written"=some none)
  (CA:W.nsIn K mainGlobals "Asker"=some (some (.ref cA)))
  (pA:W.plainGet K cA Str.empty=true)
  (hA:W.hasDictIn K cA=true)
  (oA:W.plainOver K cA=true)
  (sA:W.findIn K (.ref cA) "__setattr__"=some (some (.builtin "object.__setattr__")))
  (mA:W.makesIn K cA=true)
  (kA:W.keepIn K (.ref cA)=true)
  (nA0:W.findIn K (.ref cA) "number"=some none)
  (nA1:W.findIn K (.ref cA) "step"=some none)
  (nA2:W.findIn K (.ref cA) "wish"=some none)
  (nA3:W.findIn K (.ref cA) "many"=some none)
  (nA4:W.findIn K (.ref cA) "ballot"=some none)
  (nA5:W.findIn K (.ref cA) "fresh"=some none)
  (nA6:W.findIn K (.ref cA) "noted"=some none)
  (nA7:W.findIn K (.ref cA) "asked"=some none)
  (CV:W.nsIn K mainGlobals "Voter"=some (some (.ref cV)))
  (pV:W.plainGet K cV Str.empty=true)
  (hV:W.hasDictIn K cV=true)
  (oV:W.plainOver K cV=true)
  (sV:W.findIn K (.ref cV) "__setattr__"=some (some (.builtin "object.__setattr__")))
  (mV:W.makesIn K cV=true)
  (kV:W.keepIn K (.ref cV)=true)
  (nV0:W.findIn K (.ref cV) "number"=some none)
  (nV1:W.findIn K (.ref cV) "bound"=some none)
  (nV2:W.findIn K (.ref cV) "last"=some none)
  (CR:W.nsIn K mainGlobals "Room"=some (some (.ref cR)))
  (pR:W.plainGet K cR Str.empty=true)
  (hR:W.hasDictIn K cR=true)
  (oR:W.plainOver K cR=true)
  (sR:W.findIn K (.ref cR) "__setattr__"=some (some (.builtin "object.__setattr__")))
  (mR:W.makesIn K cR=true)
  (kR:W.keepIn K (.ref cR)=true)
  (nR0:W.findIn K (.ref cR) "many"=some none)
  (nR1:W.findIn K (.ref cR) "pile"=some none)
  (nR2:W.findIn K (.ref cR) "askers"=some none)
  (nR3:W.findIn K (.ref cR) "voters"=some none)
  (a0:W.nsIn K mainGlobals "prepare"=some (some (.ref f0)))
  (l0:K.lookup f0=some ⟨o0,d0,.func (fnS "prepare" "prepare" zeh q0 r0 s0 e0 t0 u0),g0⟩)
  (c0:W.codeIn K t0 "prepare"=true)
  (k0:W.keepIn K (.ref f0)=true)
  (a1:W.findIn K (.ref cP) "__init__"=some (some (.ref f1)))
  (i1:W.isFn K (.ref f1)=true)
  (l1:K.lookup f1=some ⟨o1,d1,.func (fnS "__init__" "Pile.__init__" zby q1 r1 s1 e1 t1 u1),g1⟩)
  (c1:W.codeIn K t1 "Pile.__init__"=true)
  (k1:W.keepIn K (.ref f1)=true)
  (a2:W.findIn K (.ref cP) "write"=some (some (.ref f2)))
  (i2:W.isFn K (.ref f2)=true)
  (l2:K.lookup f2=some ⟨o2,d2,.func (fnS "write" "Pile.write" zcE q2 r2 s2 e2 t2 u2),g2⟩)
  (c2:W.codeIn K t2 "Pile.write"=true)
  (k2:W.keepIn K (.ref f2)=true)
  (a3:W.findIn K (.ref cP) "letters"=some (some (.ref f3)))
  (i3:W.isFn K (.ref f3)=true)
  (l3:K.lookup f3=some ⟨o3,d3,.func (fnS "letters" "Pile.letters" zbP q3 r3 s3 e3 t3 u3),g3⟩)
  (c3:W.codeIn K t3 "Pile.letters"=true)
  (k3:W.keepIn K (.ref f3)=true)
  (a4:W.nsIn K mainGlobals "own_ballot"=some (some (.ref f4)))
  (l4:K.lookup f4=some ⟨o4,d4,.func (fnS "own_ballot" "own_ballot" zcC q4 r4 s4 e4 t4 u4),g4⟩)
  (c4:W.codeIn K t4 "own_ballot"=true)
  (k4:W.keepIn K (.ref f4)=true)
  (a5:W.findIn K (.ref cA) "__init__"=some (some (.ref f5)))
  (i5:W.isFn K (.ref f5)=true)
  (l5:K.lookup f5=some ⟨o5,d5,.func (fnS "__init__" "Asker.__init__" zbn q5 r5 s5 e5 t5 u5),g5⟩)
  (c5:W.codeIn K t5 "Asker.__init__"=true)
  (k5:W.keepIn K (.ref f5)=true)
  (a6:W.findIn K (.ref cA) "begin"=some (some (.ref f6)))
  (i6:W.isFn K (.ref f6)=true)
  (l6:K.lookup f6=some ⟨o6,d6,.func (fnS "begin" "Asker.begin" zch q6 r6 s6 e6 t6 u6),g6⟩)
  (c6:W.codeIn K t6 "Asker.begin"=true)
  (k6:W.keepIn K (.ref f6)=true)
  (a7:W.findIn K (.ref cA) "fall"=some (some (.ref f7)))
  (i7:W.isFn K (.ref f7)=true)
  (l7:K.lookup f7=some ⟨o7,d7,.func (fnS "fall" "Asker.fall" zcG q7 r7 s7 e7 t7 u7),g7⟩)
  (c7:W.codeIn K t7 "Asker.fall"=true)
  (k7:W.keepIn K (.ref f7)=true)
  (a8:W.findIn K (.ref cV) "__init__"=some (some (.ref f8)))
  (i8:W.isFn K (.ref f8)=true)
  (l8:K.lookup f8=some ⟨o8,d8,.func (fnS "__init__" "Voter.__init__" zbm q8 r8 s8 e8 t8 u8),g8⟩)
  (c8:W.codeIn K t8 "Voter.__init__"=true)
  (k8:W.keepIn K (.ref f8)=true)
  (a9:W.findIn K (.ref cV) "promised"=some (some (.ref f9)))
  (i9:W.isFn K (.ref f9)=true)
  (l9:K.lookup f9=some ⟨o9,d9,.func (fnS "promised" "Voter.promised" zbk q9 r9 s9 e9 t9 u9),g9⟩)
  (c9:W.codeIn K t9 "Voter.promised"=true)
  (k9:W.keepIn K (.ref f9)=true)
  (a10:W.findIn K (.ref cV) "voted"=some (some (.ref f10)))
  (i10:W.isFn K (.ref f10)=true)
  (l10:K.lookup f10=some ⟨o10,d10,.func (fnS "voted" "Voter.voted" zce q10 r10 s10 e10 t10 u10),g10⟩)
  (c10:W.codeIn K t10 "Voter.voted"=true)
  (k10:W.keepIn K (.ref f10)=true)
  (a11:W.findIn K (.ref cR) "asker_at"=some (some (.ref f11)))
  (i11:W.isFn K (.ref f11)=true)
  (l11:K.lookup f11=some ⟨o11,d11,.func (fnS "asker_at" "Room.asker_at" za4 q11 r11 s11 e11 t11 u11),g11⟩)
  (c11:W.codeIn K t11 "Room.asker_at"=true)
  (k11:W.keepIn K (.ref f11)=true)
  (a12:W.findIn K (.ref cR) "voter_at"=some (some (.ref f12)))
  (i12:W.isFn K (.ref f12)=true)
  (l12:K.lookup f12=some ⟨o12,d12,.func (fnS "voter_at" "Room.voter_at" za2 q12 r12 s12 e12 t12 u12),g12⟩)
  (c12:W.codeIn K t12 "Room.voter_at"=true)
  (k12:W.keepIn K (.ref f12)=true)
  (a13:W.findIn K (.ref cR) "letters"=some (some (.ref f13)))
  (i13:W.isFn K (.ref f13)=true)
  (l13:K.lookup f13=some ⟨o13,d13,.func (fnS "letters" "Room.letters" zbO q13 r13 s13 e13 t13 u13),g13⟩)
  (c13:W.codeIn K t13 "Room.letters"=true)
  (k13:W.keepIn K (.ref f13)=true)
  (a14:W.findIn K (.ref cR) "begin"=some (some (.ref f14)))
  (i14:W.isFn K (.ref f14)=true)
  (l14:K.lookup f14=some ⟨o14,d14,.func (fnS "begin" "Room.begin" zbU q14 r14 s14 e14 t14 u14),g14⟩)
  (c14:W.codeIn K t14 "Room.begin"=true)
  (k14:W.keepIn K (.ref f14)=true)
  (a15:W.findIn K (.ref cR) "fall"=some (some (.ref f15)))
  (i15:W.isFn K (.ref f15)=true)
  (l15:K.lookup f15=some ⟨o15,d15,.func (fnS "fall" "Room.fall" zcq q15 r15 s15 e15 t15 u15),g15⟩)
  (c15:W.codeIn K t15 "Room.fall"=true)
  (k15:W.keepIn K (.ref f15)=true)
  (a16:W.findIn K (.ref cR) "promised"=some (some (.ref f16)))
  (i16:W.isFn K (.ref f16)=true)
  (l16:K.lookup f16=some ⟨o16,d16,.func (fnS "promised" "Room.promised" za3 q16 r16 s16 e16 t16 u16),g16⟩)
  (c16:W.codeIn K t16 "Room.promised"=true)
  (k16:W.keepIn K (.ref f16)=true)
  (a17:W.findIn K (.ref cR) "voted"=some (some (.ref f17)))
  (i17:W.isFn K (.ref f17)=true)
  (l17:K.lookup f17=some ⟨o17,d17,.func (fnS "voted" "Room.voted" zbT q17 r17 s17 e17 t17 u17),g17⟩)
  (c17:W.codeIn K t17 "Room.voted"=true)
  (k17:W.keepIn K (.ref f17)=true)
  (a18:W.findIn K (.ref cR) "ballot_of"=some (some (.ref f18)))
  (i18:W.isFn K (.ref f18)=true)
  (l18:K.lookup f18=some ⟨o18,d18,.func (fnS "ballot_of" "Room.ballot_of" zaS q18 r18 s18 e18 t18 u18),g18⟩)
  (c18:W.codeIn K t18 "Room.ballot_of"=true)
  (k18:W.keepIn K (.ref f18)=true)
  (a19:W.nsIn K mainGlobals "more_than_half"=some (some (.ref f19)))
  (l19:K.lookup f19=some ⟨o19,d19,.func (fnS "more_than_half" "more_than_half" zbj q19 r19 s19 e19 t19 u19),g19⟩)
  (c19:W.codeIn K t19 "more_than_half"=true)
  (k19:W.keepIn K (.ref f19)=true)
  (a20:W.findIn K (.ref cR) "__init__"=some (some (.ref f20)))
  (i20:W.isFn K (.ref f20)=true)
  (l20:K.lookup f20=some ⟨o20,d20,.func (fnS "__init__" "Room.__init__" zaN q20 r20 s20 e20 t20 u20),g20⟩)
  (c20:W.codeIn K t20 "Room.__init__"=true)
  (k20:W.keepIn K (.ref f20)=true)
  (a21:W.nsIn K mainGlobals "promise"=some (some (.ref f21)))
  (l21:K.lookup f21=some ⟨o21,d21,.func (fnS "promise" "promise" zeg q21 r21 s21 e21 t21 u21),g21⟩)
  (c21:W.codeIn K t21 "promise"=true)
  (k21:W.keepIn K (.ref f21)=true)
  (a22:W.nsIn K mainGlobals "ask"=some (some (.ref f22)))
  (l22:K.lookup f22=some ⟨o22,d22,.func (fnS "ask" "ask" s_ask q22 r22 s22 e22 t22 u22),g22⟩)
  (c22:W.codeIn K t22 "ask"=true)
  (k22:W.keepIn K (.ref f22)=true)
  (a23:W.nsIn K mainGlobals "vote"=some (some (.ref f23)))
  (l23:K.lookup f23=some ⟨o23,d23,.func (fnS "vote" "vote" zjn q23 r23 s23 e23 t23 u23),g23⟩)
  (c23:W.codeIn K t23 "vote"=true)
  (k23:W.keepIn K (.ref f23)=true)
  (a24:W.nsIn K mainGlobals "owner"=some (some (.ref f24)))
  (l24:K.lookup f24=some ⟨o24,d24,.func (fnS "owner" "owner" zgY q24 r24 s24 e24 t24 u24),g24⟩)
  (c24:W.codeIn K t24 "owner"=true)
  (k24:W.keepIn K (.ref f24)=true)
  (a25:W.findIn K (.ref cP) "letter_at"=some (some (.ref f25)))
  (i25:W.isFn K (.ref f25)=true)
  (l25:K.lookup f25=some ⟨o25,d25,.func (fnS "letter_at" "Pile.letter_at" zaT q25 r25 s25 e25 t25 u25),g25⟩)
  (c25:W.codeIn K t25 "Pile.letter_at"=true)
  (k25:W.keepIn K (.ref f25)=true)
  (a26:W.findIn K (.ref cV) "hear_prepare"=some (some (.ref f26)))
  (i26:W.isFn K (.ref f26)=true)
  (l26:K.lookup f26=some ⟨o26,d26,.func (fnS "hear_prepare" "Voter.hear_prepare" zaL q26 r26 s26 e26 t26 u26),g26⟩)
  (c26:W.codeIn K t26 "Voter.hear_prepare"=true)
  (k26:W.keepIn K (.ref f26)=true)
  (a27:W.findIn K (.ref cV) "hear_ask"=some (some (.ref f27)))
  (i27:W.isFn K (.ref f27)=true)
  (l27:K.lookup f27=some ⟨o27,d27,.func (fnS "hear_ask" "Voter.hear_ask" zbl q27 r27 s27 e27 t27 u27),g27⟩)
  (c27:W.codeIn K t27 "Voter.hear_ask"=true)
  (k27:W.keepIn K (.ref f27)=true)
  (a28:W.findIn K (.ref cV) "hear"=some (some (.ref f28)))
  (i28:W.isFn K (.ref f28)=true)
  (l28:K.lookup f28=some ⟨o28,d28,.func (fnS "hear" "Voter.hear" zcD q28 r28 s28 e28 t28 u28),g28⟩)
  (c28:W.codeIn K t28 "Voter.hear"=true)
  (k28:W.keepIn K (.ref f28)=true)
  (a29:W.findIn K (.ref cA) "wish_to_ask"=some (some (.ref f29)))
  (i29:W.isFn K (.ref f29)=true)
  (l29:K.lookup f29=some ⟨o29,d29,.func (fnS "wish_to_ask" "Asker.wish_to_ask" zaD q29 r29 s29 e29 t29 u29),g29⟩)
  (c29:W.codeIn K t29 "Asker.wish_to_ask"=true)
  (k29:W.keepIn K (.ref f29)=true)
  (a30:W.findIn K (.ref cA) "hear"=some (some (.ref f30)))
  (i30:W.isFn K (.ref f30)=true)
  (l30:K.lookup f30=some ⟨o30,d30,.func (fnS "hear" "Asker.hear" zcF q30 r30 s30 e30 t30 u30),g30⟩)
  (c30:W.codeIn K t30 "Asker.hear"=true)
  (k30:W.keepIn K (.ref f30)=true)
  (a31:W.findIn K (.ref cR) "come"=some (some (.ref f31)))
  (i31:W.isFn K (.ref f31)=true)
  (l31:K.lookup f31=some ⟨o31,d31,.func (fnS "come" "Room.come" zdi q31 r31 s31 e31 t31 u31),g31⟩)
  (c31:W.codeIn K t31 "Room.come"=true)
  (k31:W.keepIn K (.ref f31)=true)
  (a32:W.findIn K (.ref cR) "bring"=some (some (.ref f32)))
  (i32:W.isFn K (.ref f32)=true)
  (l32:K.lookup f32=some ⟨o32,d32,.func (fnS "bring" "Room.bring" zbq q32 r32 s32 e32 t32 u32),g32⟩)
  (c32:W.codeIn K t32 "Room.bring"=true)
  (k32:W.keepIn K (.ref f32)=true)
  (a33:W.nsIn K mainGlobals "chosen_pairs"=some (some (.ref f33)))
  (l33:K.lookup f33=some ⟨o33,d33,.func (fnS "chosen_pairs" "chosen_pairs" zbi q33 r33 s33 e33 t33 u33),g33⟩)
  (c33:W.codeIn K t33 "chosen_pairs"=true)
  (k33:W.keepIn K (.ref f33)=true)
  (a34:W.findIn K (.ref cR) "chosen"=some (some (.ref f34)))
  (i34:W.isFn K (.ref f34)=true)
  (l34:K.lookup f34=some ⟨o34,d34,.func (fnS "chosen" "Room.chosen" zcf q34 r34 s34 e34 t34 u34),g34⟩)
  (c34:W.codeIn K t34 "Room.chosen"=true)
  (k34:W.keepIn K (.ref f34)=true)
  (a35:W.nsIn K mainGlobals "_law_cell"=some (some (.ref f35)))
  (l35:K.lookup f35=some ⟨o35,d35,.func (fnS "_law_cell" "_law_cell" zdh q35 r35 s35 e35 t35 u35),g35⟩)
  (c35:W.codeIn K t35 "_law_cell"=true)
  (k35:W.keepIn K (.ref f35)=true)
  (a36:W.nsIn K mainGlobals "_law_mix"=some (some (.ref f36)))
  (l36:K.lookup f36=some ⟨o36,d36,.func (fnS "_law_mix" "_law_mix" zdS q36 r36 s36 e36 t36 u36),g36⟩)
  (c36:W.codeIn K t36 "_law_mix"=true)
  (k36:W.keepIn K (.ref f36)=true)
  (a37:W.nsIn K mainGlobals "_law_wishes"=some (some (.ref f37)))
  (l37:K.lookup f37=some ⟨o37,d37,.func (fnS "_law_wishes" "_law_wishes" zbw q37 r37 s37 e37 t37 u37),g37⟩)
  (c37:W.codeIn K t37 "_law_wishes"=true)
  (k37:W.keepIn K (.ref f37)=true)
  (a38:W.nsIn K mainGlobals "_law_many"=some (some (.ref f38)))
  (l38:K.lookup f38=some ⟨o38,d38,.func (fnS "_law_many" "_law_many" zdg q38 r38 s38 e38 t38 u38),g38⟩)
  (c38:W.codeIn K t38 "_law_many"=true)
  (k38:W.keepIn K (.ref f38)=true)
  (a39:W.nsIn K mainGlobals "_law_bits"=some (some (.ref f39)))
  (l39:K.lookup f39=some ⟨o39,d39,.func (fnS "_law_bits" "_law_bits" zcp q39 r39 s39 e39 t39 u39),g39⟩)
  (c39:W.codeIn K t39 "_law_bits"=true)
  (k39:W.keepIn K (.ref f39)=true)
  (a40:W.nsIn K mainGlobals "_law_acts"=some (some (.ref f40)))
  (l40:K.lookup f40=some ⟨o40,d40,.func (fnS "_law_acts" "_law_acts" zbG q40 r40 s40 e40 t40 u40),g40⟩)
  (c40:W.codeIn K t40 "_law_acts"=true)
  (k40:W.keepIn K (.ref f40)=true)
  (a41:W.nsIn K mainGlobals "chosen_wish"=some (some (.ref f41)))
  (l41:K.lookup f41=some ⟨o41,d41,.func (fnS "chosen_wish" "chosen_wish" zcd q41 r41 s41 e41 t41 u41),g41⟩)
  (c41:W.codeIn K t41 "chosen_wish"=true)
  (k41:W.keepIn K (.ref f41)=true)
  (a42:W.findIn K (.ref cR) "choice"=some (some (.ref f42)))
  (i42:W.isFn K (.ref f42)=true)
  (l42:K.lookup f42=some ⟨o42,d42,.func (fnS "choice" "Room.choice" zcg q42 r42 s42 e42 t42 u42),g42⟩)
  (c42:W.codeIn K t42 "Room.choice"=true)
  (k42:W.keepIn K (.ref f42)=true)
  (a43:W.nsIn K mainGlobals "_law_do"=some (some (.ref f43)))
  (l43:K.lookup f43=some ⟨o43,d43,.func (fnS "_law_do" "_law_do" zei q43 r43 s43 e43 t43 u43),g43⟩)
  (c43:W.codeIn K t43 "_law_do"=true)
  (k43:W.keepIn K (.ref f43)=true)
  (a44:W.nsIn K mainGlobals "_law_play"=some (some (.ref f44)))
  (l44:K.lookup f44=some ⟨o44,d44,.func (fnS "_law_play" "_law_play" zdf q44 r44 s44 e44 t44 u44),g44⟩)
  (c44:W.codeIn K t44 "_law_play"=true)
  (k44:W.keepIn K (.ref f44)=true)
  (a45:W.nsIn K mainGlobals "_law_shown"=some (some (.ref f45)))
  (l45:K.lookup f45=some ⟨o45,d45,.func (fnS "_law_shown" "_law_shown" zbS q45 r45 s45 e45 (.ref cL) u45),g45⟩)
  (hdL:W.codeHdIn K cL tL=true) (ktL:K.lookup tL=none) (c45:W.codeIn K (.ref cL) "_law_shown"=true)
  (k45:W.keepIn K (.ref f45)=true)
  (a46:W.findIn K (.ref cP) "beyond"=some (some (.ref f46)))
  (i46:W.isFn K (.ref f46)=true)
  (l46:K.lookup f46=some ⟨o46,d46,.func (fnS "beyond" "Pile.beyond" zbx q46 r46 s46 e46 t46 u46),g46⟩)
  (c46:W.codeIn K t46 "Pile.beyond"=true)
  (k46:W.keepIn K (.ref f46)=true)
  (a47:W.findIn K (.ref cR) "calm"=some (some (.ref f47)))
  (i47:W.isFn K (.ref f47)=true)
  (l47:K.lookup f47=some ⟨o47,d47,.func (fnS "calm" "Room.calm" zdj q47 r47 s47 e47 t47 u47),g47⟩)
  (c47:W.codeIn K t47 "Room.calm"=true)
  (k47:W.keepIn K (.ref f47)=true)
  (a48:W.nsIn K mainGlobals "_law_try"=some (some (.ref f48)))
  (l48:K.lookup f48=some ⟨o48,d48,.func (fnS "_law_try" "_law_try" zdR q48 r48 s48 e48 t48 u48),g48⟩)
  (c48:W.codeIn K t48 "_law_try"=true)
  (k48:W.keepIn K (.ref f48)=true)
  (a49:W.nsIn K mainGlobals "_law_said"=some (some (.ref f49)))
  (l49:K.lookup f49=some ⟨o49,d49,.func (fnS "_law_said" "_law_said" zde q49 r49 s49 e49 t49 u49),g49⟩)
  (c49:W.codeIn K t49 "_law_said"=true)
  (k49:W.keepIn K (.ref f49)=true)
  (a50:W.nsIn K mainGlobals "law"=some (some (.ref f50)))
  (l50:K.lookup f50=some ⟨o50,d50,.func (fnS "law" "law" s_law q50 r50 s50 e50 t50 u50),g50⟩)
  (c50:W.codeIn K t50 "law"=true)
  (k50:W.keepIn K (.ref f50)=true)
  (z_ValueError:W.nsIn K mainGlobals "ValueError"=some none)
  (z_enumerate:W.nsIn K mainGlobals "enumerate"=some none)
  (z_isinstance:W.nsIn K mainGlobals "isinstance"=some none)
  (z_len:W.nsIn K mainGlobals "len"=some none)
  (z_max:W.nsIn K mainGlobals "max"=some none)
  (z_min:W.nsIn K mainGlobals "min"=some none)
  (z_range:W.nsIn K mainGlobals "range"=some none)
  (z_sorted:W.nsIn K mainGlobals "sorted"=some none)
  (z_tuple:W.nsIn K mainGlobals "tuple"=some none)
  (y_ASK:W.nsIn K mainGlobals "ASK"=some (some (.str "ask" t_ASK)))
  (y_PREPARE:W.nsIn K mainGlobals "PREPARE"=some (some (.str "prepare" t_PREPARE)))
  (y_PROMISE:W.nsIn K mainGlobals "PROMISE"=some (some (.str "promise" t_PROMISE)))
  (y_VOTE:W.nsIn K mainGlobals "VOTE"=some (some (.str "vote" t_VOTE)))
  (xsp:W.specialIn K (.builtin "object.__class__") "__get__"=some (some (.builtin "getset_descriptor.__get__")))
  (xtk:W.takesIn K (.builtin "object.__class__")=some true)
  (xgA:W.nsIn K mainGlobals "NoAsker"=some (some (.ref xA)))
  (xgV:W.nsIn K mainGlobals "NoVoter"=some (some (.ref xV)))
  (xgL:W.nsIn K mainGlobals "NoLetter"=some (some (.ref xL)))
  (xgR:W.nsIn K mainGlobals "RoomError"=some (some (.ref xR)))
  (xqA:W.excIn K xA bmVE "ValueError.__new__"=true)
  (xpA:W.findIn K (.ref xA) "__getattribute__"=some (some (.builtin "BaseException.__getattribute__")))
  (xtA:W.findIn K (.ref xA) "__getattr__"=some none)
  (xbA:W.mroIn K xA (.type "BaseException")=some true)
  (xhA:W.hasDictIn K xA=true)
  (xfA:W.findIn K (.ref xA) "__class__"=some (some (.builtin "object.__class__")))
  (xmA:W.mroIn K xA (.type "object")=some true)
  (xrA:W.exmOne K (.ref xA) (.ref xR)=some true)
  (xkAA:W.kitOne K (.ref xA) (.ref xA)=some true)
  (xkAV:W.kitOne K (.ref xA) (.ref xV)=some false)
  (xkAL:W.kitOne K (.ref xA) (.ref xL)=some false)
  (xkAE:W.kitOne K (.ref xA) (.type "ValueError")=some true)
  (xqV:W.excIn K xV bmVE "ValueError.__new__"=true)
  (xpV:W.findIn K (.ref xV) "__getattribute__"=some (some (.builtin "BaseException.__getattribute__")))
  (xtV:W.findIn K (.ref xV) "__getattr__"=some none)
  (xbV:W.mroIn K xV (.type "BaseException")=some true)
  (xhV:W.hasDictIn K xV=true)
  (xfV:W.findIn K (.ref xV) "__class__"=some (some (.builtin "object.__class__")))
  (xmV:W.mroIn K xV (.type "object")=some true)
  (xrV:W.exmOne K (.ref xV) (.ref xR)=some true)
  (xkVA:W.kitOne K (.ref xV) (.ref xA)=some false)
  (xkVV:W.kitOne K (.ref xV) (.ref xV)=some true)
  (xkVL:W.kitOne K (.ref xV) (.ref xL)=some false)
  (xkVE:W.kitOne K (.ref xV) (.type "ValueError")=some true)
  (xqL:W.excIn K xL bmVE "ValueError.__new__"=true)
  (xpL:W.findIn K (.ref xL) "__getattribute__"=some (some (.builtin "BaseException.__getattribute__")))
  (xtL:W.findIn K (.ref xL) "__getattr__"=some none)
  (xbL:W.mroIn K xL (.type "BaseException")=some true)
  (xhL:W.hasDictIn K xL=true)
  (xfL:W.findIn K (.ref xL) "__class__"=some (some (.builtin "object.__class__")))
  (xmL:W.mroIn K xL (.type "object")=some true)
  (xrL:W.exmOne K (.ref xL) (.ref xR)=some true)
  (xkLA:W.kitOne K (.ref xL) (.ref xA)=some false)
  (xkLV:W.kitOne K (.ref xL) (.ref xV)=some false)
  (xkLL:W.kitOne K (.ref xL) (.ref xL)=some true)
  (xkLE:W.kitOne K (.ref xL) (.type "ValueError")=some true) :
  (∃ c,W.codeHdIn K c tL=true)/\K.lookup tL=none/\∃ fd:FuncData,(∀ (s:Shared) (v:Value),BindsTo s fd ⟨[v],[]⟩ [("_law_script",v)])/\∀ base:Heap,K.In base->base.Ns mainGlobals mg->base.BuiltinsAt mg tL->FOk l.prog w K mg base 8 fa fd ["_law_script"] (zhF tL lamQ lamP):=by
 have e:=hfa.symm.trans (W.mg_of X G a50)
 cases e
 have KP:Cls K cP:=⟨pP,hP,oP,sP⟩
 have KA:Cls K cA:=⟨pA,hA,oA,sA⟩
 have KV:Cls K cV:=⟨pV,hV,oV,sV⟩
 have KR:Cls K cR:=⟨pR,hR,oR,sR⟩
 have aT:At K (zbr cP cA cV cR tL xA xV xL xR):=⟨⟨KP,nP0⟩,⟨KP,nP1⟩,⟨KA,nA0⟩,⟨KA,nA1⟩,⟨KA,nA2⟩,⟨KA,nA3⟩,⟨KA,nA4⟩,⟨KA,nA5⟩,⟨KA,nA6⟩,⟨KA,nA7⟩,⟨KV,nV0⟩,⟨KV,nV1⟩,⟨KV,nV2⟩,⟨KR,nR0⟩,⟨KR,nR1⟩,⟨KR,nR2⟩,⟨KR,nR3⟩⟩
 have T0:=zao (st:=zeh) l0 c0 k0
 have B0:=T0.binds (ps:=["ballot"]) λ_ _ _ _ _ _ us hl=>by obtain⟨_,rfl⟩:=ziu hl; rfl
 have T1:=zao (st:=zby) l1 c1 k1
 have B1:=T1.binds (ps:=["self"]) λ_ _ _ _ _ _ us hl=>by obtain⟨_,rfl⟩:=ziu hl; rfl
 have T2:=zao (st:=zcE) l2 c2 k2
 have B2:=T2.binds (ps:=["self","letter"]) λ_ _ _ _ _ _ us hl=>by obtain⟨_,_,rfl⟩:=zf2 hl; rfl
 have T3:=zao (st:=zbP) l3 c3 k3
 have B3:=T3.binds (ps:=["self"]) λ_ _ _ _ _ _ us hl=>by obtain⟨_,rfl⟩:=ziu hl; rfl
 have T4:=zao (st:=zcC) l4 c4 k4
 have B4:=T4.binds (ps:=["number","askers","least"]) λ_ _ _ _ _ _ us hl=>by obtain⟨_,_,_,rfl⟩:=zep hl; rfl
 have T5:=zao (st:=zbn) l5 c5 k5
 have B5:=T5.binds (ps:=["self","number","askers","wish","many"]) λ_ _ _ _ _ _ us hl=>by obtain⟨_,_,_,_,_,rfl⟩:=len5 hl; rfl
 have T6:=zao (st:=zch) l6 c6 k6
 have B6:=T6.binds (ps:=["self","least"]) λ_ _ _ _ _ _ us hl=>by obtain⟨_,_,rfl⟩:=zf2 hl; rfl
 have T7:=zao (st:=zcG) l7 c7 k7
 have B7:=T7.binds (ps:=["self"]) λ_ _ _ _ _ _ us hl=>by obtain⟨_,rfl⟩:=ziu hl; rfl
 have T8:=zao (st:=zbm) l8 c8 k8
 have B8:=T8.binds (ps:=["self","number"]) λ_ _ _ _ _ _ us hl=>by obtain⟨_,_,rfl⟩:=zf2 hl; rfl
 have T9:=zao (st:=zbk) l9 c9 k9
 have B9:=T9.binds (ps:=["self"]) λ_ _ _ _ _ _ us hl=>by obtain⟨_,rfl⟩:=ziu hl; rfl
 have T10:=zao (st:=zce) l10 c10 k10
 have B10:=T10.binds (ps:=["self"]) λ_ _ _ _ _ _ us hl=>by obtain⟨_,rfl⟩:=ziu hl; rfl
 have T11:=zao (st:=za4) l11 c11 k11
 have B11:=T11.binds (ps:=["self","asker"]) λ_ _ _ _ _ _ us hl=>by obtain⟨_,_,rfl⟩:=zf2 hl; rfl
 have T12:=zao (st:=za2) l12 c12 k12
 have B12:=T12.binds (ps:=["self","voter"]) λ_ _ _ _ _ _ us hl=>by obtain⟨_,_,rfl⟩:=zf2 hl; rfl
 have T13:=zao (st:=zbO) l13 c13 k13
 have B13:=T13.binds (ps:=["self"]) λ_ _ _ _ _ _ us hl=>by obtain⟨_,rfl⟩:=ziu hl; rfl
 have T14:=zao (st:=zbU) l14 c14 k14
 have B14:=T14.binds (ps:=["self","asker","least"]) λ_ _ _ _ _ _ us hl=>by obtain⟨_,_,_,rfl⟩:=zep hl; rfl
 have T15:=zao (st:=zcq) l15 c15 k15
 have B15:=T15.binds (ps:=["self","asker"]) λ_ _ _ _ _ _ us hl=>by obtain⟨_,_,rfl⟩:=zf2 hl; rfl
 have T16:=zao (st:=za3) l16 c16 k16
 have B16:=T16.binds (ps:=["self","voter"]) λ_ _ _ _ _ _ us hl=>by obtain⟨_,_,rfl⟩:=zf2 hl; rfl
 have T17:=zao (st:=zbT) l17 c17 k17
 have B17:=T17.binds (ps:=["self","voter"]) λ_ _ _ _ _ _ us hl=>by obtain⟨_,_,rfl⟩:=zf2 hl; rfl
 have T18:=zao (st:=zaS) l18 c18 k18
 have B18:=T18.binds (ps:=["self","asker"]) λ_ _ _ _ _ _ us hl=>by obtain⟨_,_,rfl⟩:=zf2 hl; rfl
 have T19:=zao (st:=zbj) l19 c19 k19
 have B19:=T19.binds (ps:=["some","many"]) λ_ _ _ _ _ _ us hl=>by obtain⟨_,_,rfl⟩:=zf2 hl; rfl
 have T20:=zao (st:=zaN) l20 c20 k20
 have B20:=T20.binds (ps:=["self","wishes","many"]) λ_ _ _ _ _ _ us hl=>by obtain⟨_,_,_,rfl⟩:=zep hl; rfl
 have T21:=zao (st:=zeg) l21 c21 k21
 have B21:=T21.binds (ps:=["ballot","voter","last"]) λ_ _ _ _ _ _ us hl=>by obtain⟨_,_,_,rfl⟩:=zep hl; rfl
 have T22:=zao (st:=s_ask) l22 c22 k22
 have B22:=T22.binds (ps:=["ballot","wish"]) λ_ _ _ _ _ _ us hl=>by obtain⟨_,_,rfl⟩:=zf2 hl; rfl
 have T23:=zao (st:=zjn) l23 c23 k23
 have B23:=T23.binds (ps:=["ballot","voter","wish"]) λ_ _ _ _ _ _ us hl=>by obtain⟨_,_,_,rfl⟩:=zep hl; rfl
 have T24:=zao (st:=zgY) l24 c24 k24
 have B24:=T24.binds (ps:=["ballot","askers"]) λ_ _ _ _ _ _ us hl=>by obtain⟨_,_,rfl⟩:=zf2 hl; rfl
 have T25:=zao (st:=zaT) l25 c25 k25
 have B25:=T25.binds (ps:=["self","k"]) λ_ _ _ _ _ _ us hl=>by obtain⟨_,_,rfl⟩:=zf2 hl; rfl
 have T26:=zao (st:=zaL) l26 c26 k26
 have B26:=T26.binds (ps:=["self","ballot"]) λ_ _ _ _ _ _ us hl=>by obtain⟨_,_,rfl⟩:=zf2 hl; rfl
 have T27:=zao (st:=zbl) l27 c27 k27
 have B27:=T27.binds (ps:=["self","ballot","wish"]) λ_ _ _ _ _ _ us hl=>by obtain⟨_,_,_,rfl⟩:=zep hl; rfl
 have T28:=zao (st:=zcD) l28 c28 k28
 have B28:=T28.binds (ps:=["self","letter"]) λ_ _ _ _ _ _ us hl=>by obtain⟨_,_,rfl⟩:=zf2 hl; rfl
 have T29:=zao (st:=zaD) l29 c29 k29
 have B29:=T29.binds (ps:=["self"]) λ_ _ _ _ _ _ us hl=>by obtain⟨_,rfl⟩:=ziu hl; rfl
 have T30:=zao (st:=zcF) l30 c30 k30
 have B30:=T30.binds (ps:=["self","letter"]) λ_ _ _ _ _ _ us hl=>by obtain⟨_,_,rfl⟩:=zf2 hl; rfl
 have T31:=zao (st:=zdi) l31 c31 k31
 have B31:=T31.binds (ps:=["self","letter","voter"]) λ_ _ _ _ _ _ us hl=>by obtain⟨_,_,_,rfl⟩:=zep hl; rfl
 have T32:=zao (st:=zbq) l32 c32 k32
 have B32:=T32.binds (ps:=["self","k","voter"]) λ_ _ _ _ _ _ us hl=>by obtain⟨_,_,_,rfl⟩:=zep hl; rfl
 have T33:=zao (st:=zbi) l33 c33 k33
 have B33:=T33.binds (ps:=["letters","many"]) λ_ _ _ _ _ _ us hl=>by obtain⟨_,_,rfl⟩:=zf2 hl; rfl
 have T34:=zao (st:=zcf) l34 c34 k34
 have B34:=T34.binds (ps:=["self"]) λ_ _ _ _ _ _ us hl=>by obtain⟨_,rfl⟩:=ziu hl; rfl
 have T35:=zao (st:=zdh) l35 c35 k35
 have B35:=T35.binds (ps:=["_law_script","_law_k"]) λ_ _ _ _ _ _ us hl=>by obtain⟨_,_,rfl⟩:=zf2 hl; rfl
 have T36:=zao (st:=zdS) l36 c36 k36
 have B36:=T36.binds (ps:=["_law_cell_here","_law_prime","_law_many_here"]) λ_ _ _ _ _ _ us hl=>by obtain⟨_,_,_,rfl⟩:=zep hl; rfl
 have T37:=zao (st:=zbw) l37 c37 k37
 have B37:=T37.binds (ps:=["_law_script"]) λ_ _ _ _ _ _ us hl=>by obtain⟨_,rfl⟩:=ziu hl; rfl
 have T38:=zao (st:=zdg) l38 c38 k38
 have B38:=T38.binds (ps:=["_law_script"]) λ_ _ _ _ _ _ us hl=>by obtain⟨_,rfl⟩:=ziu hl; rfl
 have T39:=zao (st:=zcp) l39 c39 k39
 have B39:=T39.binds (ps:=["_law_cell_here","_law_many_here"]) λ_ _ _ _ _ _ us hl=>by obtain⟨_,_,rfl⟩:=zf2 hl; rfl
 have T40:=zao (st:=zbG) l40 c40 k40
 have B40:=T40.binds (ps:=["_law_letters","_law_cell_here","_law_askers","_law_many_here"]) λ_ _ _ _ _ _ us hl=>by obtain⟨_,_,_,_,rfl⟩:=len4 hl; rfl
 have T41:=zao (st:=zcd) l41 c41 k41
 have B41:=T41.binds (ps:=["pairs"]) λ_ _ _ _ _ _ us hl=>by obtain⟨_,rfl⟩:=ziu hl; rfl
 have T42:=zao (st:=zcg) l42 c42 k42
 have B42:=T42.binds (ps:=["self"]) λ_ _ _ _ _ _ us hl=>by obtain⟨_,rfl⟩:=ziu hl; rfl
 have T43:=zao (st:=zei) l43 c43 k43
 have B43:=T43.binds (ps:=["_law_room","_law_act"]) λ_ _ _ _ _ _ us hl=>by obtain⟨_,_,rfl⟩:=zf2 hl; rfl
 have T44:=zao (st:=zdf) l44 c44 k44
 have B44:=T44.binds (ps:=["_law_room","_law_script","_law_cells"]) λ_ _ _ _ _ _ us hl=>by obtain⟨_,_,_,rfl⟩:=zep hl; rfl
 have T45:=zao (st:=zbS) l45 c45 k45
 have B45:=T45.binds (ps:=["_law_room","_law_askers","_law_many_here"]) λ_ _ _ _ _ _ us hl=>by obtain⟨_,_,_,rfl⟩:=zep hl; rfl
 have T46:=zao (st:=zbx) l46 c46 k46
 have B46:=T46.binds (ps:=["self"]) λ_ _ _ _ _ _ us hl=>by obtain⟨_,rfl⟩:=ziu hl; rfl
 have T47:=zao (st:=zdj) l47 c47 k47
 have B47:=T47.binds (ps:=["self","asker"]) λ_ _ _ _ _ _ us hl=>by obtain⟨_,_,rfl⟩:=zf2 hl; rfl
 have T48:=zao (st:=zdR) l48 c48 k48
 have B48:=T48.binds (ps:=["_law_room","_law_way","_law_number"]) λ_ _ _ _ _ _ us hl=>by obtain⟨_,_,_,rfl⟩:=zep hl; rfl
 have T49:=zao (st:=zde) l49 c49 k49
 have B49:=T49.binds (ps:=["_law_room","_law_way","_law_number"]) λ_ _ _ _ _ _ us hl=>by obtain⟨_,_,_,rfl⟩:=zep hl; rfl
 have T50:=zao (st:=s_law) l50 c50 k50
 have B50:=T50.binds (ps:=["_law_script"]) λ_ _ _ _ _ _ us hl=>by obtain⟨_,rfl⟩:=ziu hl; rfl
 refine⟨⟨cL,hdL⟩,ktL,fnS "law" "law" s_law q50 r50 s50 e50 t50 u50,λs v=>.of_eq rfl,λbase kb _ hBL=>?_⟩
 have F0:zck l.prog w K mg base 1 "prepare" ["ballot"] (zc0 (zbr cP cA cV cR tL xA xV xL xR)):=⟨_,_,ok_prepare T0 aT ⟨_,W.mg_of X G y_PREPARE⟩,W.mg_of X G a0,k0,B0⟩
 have N1:MkAt l.prog w K mg base 1 "Pile" cP ["self"] (zb0 (zbr cP cA cV cR tL xA xV xL xR)):=⟨_,_,zfc T1 aT ,W.mg_of X G CP,⟨mP,a1,i1,kP⟩,B1⟩
 have M2:za6 l.prog w K mg base 1 cP "write" ["self","letter"] (zbt (zbr cP cA cV cR tL xA xV xL xR)):=⟨_,_,zhd T2 aT ,KP,⟨a2,i2,k2⟩,B2⟩
 have M3:za6 l.prog w K mg base 1 cP "letters" ["self"] (zbu (zbr cP cA cV cR tL xA xV xL xR)):=⟨_,_,zfA T3 aT (W.mg_none_of X G z_tuple),KP,⟨a3,i3,k3⟩,B3⟩
 have F4:zck l.prog w K mg base 1 "own_ballot" ["number","askers","least"] (za7 (zbr cP cA cV cR tL xA xV xL xR)):=⟨_,_,zg7 T4 aT (W.mg_none_of X G z_max),W.mg_of X G a4,k4,B4⟩
 have N5:MkAt l.prog w K mg base 1 "Asker" cA ["self","number","askers","wish","many"] (zbb (zbr cP cA cV cR tL xA xV xL xR)):=⟨_,_,zeS T5 aT ,W.mg_of X G CA,⟨mA,a5,i5,kA⟩,B5⟩
 have M6:za6 l.prog w K mg base 2 cA "begin" ["self","least"] (zbN (zbr cP cA cV cR tL xA xV xL xR)):=⟨_,_,zgi T6 aT (W.mg_none_of X G z_max) F4 F0,KA,⟨a6,i6,k6⟩,B6⟩
 have M7:za6 l.prog w K mg base 1 cA "fall" ["self"] (zcb (zbr cP cA cV cR tL xA xV xL xR)):=⟨_,_,zhf T7 aT ,KA,⟨a7,i7,k7⟩,B7⟩
 have N8:MkAt l.prog w K mg base 1 "Voter" cV ["self","number"] (za9 (zbr cP cA cV cR tL xA xV xL xR)):=⟨_,_,zeP T8 aT ,W.mg_of X G CV,⟨mV,a8,i8,kV⟩,B8⟩
 have M9:za6 l.prog w K mg base 1 cV "promised" ["self"] (za8 (zbr cP cA cV cR tL xA xV xL xR)):=⟨_,_,zeN T9 aT ,KV,⟨a9,i9,k9⟩,B9⟩
 have M10:za6 l.prog w K mg base 1 cV "voted" ["self"] (zbL (zbr cP cA cV cR tL xA xV xL xR)):=⟨_,_,zge T10 aT ,KV,⟨a10,i10,k10⟩,B10⟩
 have M11:za6 l.prog w K mg base 1 cR "asker_at" ["self","asker"] (zaR (zbr cP cA cV cR tL xA xV xL xR)):=⟨_,_,zfa T11 aT (W.mg_none_of X G z_len),KR,⟨a11,i11,k11⟩,B11⟩
 have M12:za6 l.prog w K mg base 1 cR "voter_at" ["self","voter"] (zaQ (zbr cP cA cV cR tL xA xV xL xR)):=⟨_,_,ze8 T12 aT (W.mg_none_of X G z_len),KR,⟨a12,i12,k12⟩,B12⟩
 have M13:za6 l.prog w K mg base 2 cR "letters" ["self"] (za1 (zbr cP cA cV cR tL xA xV xL xR)):=⟨_,_,zfz T13 aT M3,KR,⟨a13,i13,k13⟩,B13⟩
 have M14:za6 l.prog w K mg base 3 cR "begin" ["self","asker","least"] (zca (zbr cP cA cV cR tL xA xV xL xR)):=⟨_,_,zhc T14 aT M6 M2 M11,KR,⟨a14,i14,k14⟩,B14⟩
 have M15:za6 l.prog w K mg base 2 cR "fall" ["self","asker"] (zdH (zbr cP cA cV cR tL xA xV xL xR)):=⟨_,_,zhW T15 aT M7 M11,KR,⟨a15,i15,k15⟩,B15⟩
 have M16:za6 l.prog w K mg base 2 cR "promised" ["self","voter"] (zbY (zbr cP cA cV cR tL xA xV xL xR)):=⟨_,_,ze9 T16 aT M12 M9,KR,⟨a16,i16,k16⟩,B16⟩
 have M17:za6 l.prog w K mg base 2 cR "voted" ["self","voter"] (zda (zbr cP cA cV cR tL xA xV xL xR)):=⟨_,_,zha T17 aT M12 M10,KR,⟨a17,i17,k17⟩,B17⟩
 have M18:za6 l.prog w K mg base 2 cR "ballot_of" ["self","asker"] (zbE (zbr cP cA cV cR tL xA xV xL xR)):=⟨_,_,zeQ T18 aT M11,KR,⟨a18,i18,k18⟩,B18⟩
 have F19:zck l.prog w K mg base 1 "more_than_half" ["some","many"] (zau (zbr cP cA cV cR tL xA xV xL xR)):=⟨_,_,zeM T19 aT ,W.mg_of X G a19,k19,B19⟩
 have N20:MkAt l.prog w K mg base 3 "Room" cR ["self","wishes","many"] (zbZ (zbr cP cA cV cR tL xA xV xL xR)):=⟨_,_,zfb T20 aT (W.mg_none_of X G z_enumerate) (W.mg_none_of X G z_len) (W.mg_none_of X G z_range) N5 N1 N8,W.mg_of X G CR,⟨mR,a20,i20,kR⟩,B20⟩
 have F21:zck l.prog w K mg base 1 "promise" ["ballot","voter","last"] (zcZ (zbr cP cA cV cR tL xA xV xL xR)):=⟨_,_,ok_promise T21 aT ⟨_,W.mg_of X G y_PROMISE⟩,W.mg_of X G a21,k21,B21⟩
 have F22:zck l.prog w K mg base 1 "ask" ["ballot","wish"] (zhE (zbr cP cA cV cR tL xA xV xL xR)):=⟨_,_,ok_ask T22 aT ⟨_,W.mg_of X G y_ASK⟩,W.mg_of X G a22,k22,B22⟩
 have F23:zck l.prog w K mg base 1 "vote" ["ballot","voter","wish"] (zfs (zbr cP cA cV cR tL xA xV xL xR)):=⟨_,_,ok_vote T23 aT ⟨_,W.mg_of X G y_VOTE⟩,W.mg_of X G a23,k23,B23⟩
 have F24:zck l.prog w K mg base 1 "owner" ["ballot","askers"] (zec (zbr cP cA cV cR tL xA xV xL xR)):=⟨_,_,ok_owner T24 aT ,W.mg_of X G a24,k24,B24⟩
 have M25:za6 l.prog w K mg base 1 cP "letter_at" ["self","k"] (zba (zbr cP cA cV cR tL xA xV xL xR)):=⟨_,_,zeR T25 aT (W.mg_none_of X G z_len),KP,⟨a25,i25,k25⟩,B25⟩
 have M26:za6 l.prog w K mg base 2 cV "hear_prepare" ["self","ballot"] (za0 (zbr cP cA cV cR tL xA xV xL xR)):=⟨_,_,zdL T26 aT F21,KV,⟨a26,i26,k26⟩,B26⟩
 have M27:za6 l.prog w K mg base 2 cV "hear_ask" ["self","ballot","wish"] (zbD (zbr cP cA cV cR tL xA xV xL xR)):=⟨_,_,zeO T27 aT F23,KV,⟨a27,i27,k27⟩,B27⟩
 have M28:za6 l.prog w K mg base 3 cV "hear" ["self","letter"] (zc9 (zbr cP cA cV cR tL xA xV xL xR)):=⟨_,_,zg9 T28 aT ⟨_,W.mg_of X G y_ASK⟩ ⟨_,W.mg_of X G y_PREPARE⟩ M27 M26,KV,⟨a28,i28,k28⟩,B28⟩
 have M29:za6 l.prog w K mg base 1 cA "wish_to_ask" ["self"] (zbe (zbr cP cA cV cR tL xA xV xL xR)):=⟨_,_,zdZ T29 aT (W.mg_none_of X G z_len) (W.mg_none_of X G z_max),KA,⟨a29,i29,k29⟩,B29⟩
 have M30:za6 l.prog w K mg base 2 cA "hear" ["self","letter"] (zdc (zbr cP cA cV cR tL xA xV xL xR)):=⟨_,_,zhe T30 aT (W.mg_none_of X G z_len) (W.mg_none_of X G z_sorted) (W.mg_none_of X G z_tuple) F22 F19 M29,KA,⟨a30,i30,k30⟩,B30⟩
 have M31:za6 l.prog w K mg base 4 cR "come" ["self","letter","voter"] (zcx (zbr cP cA cV cR tL xA xV xL xR)):=⟨_,_,zhX T31 aT (W.mg_none_of X G z_len) ⟨_,W.mg_of X G y_PROMISE⟩ ⟨_,W.mg_of X G y_VOTE⟩ F24 M30 M2 M28,KR,⟨a31,i31,k31⟩,B31⟩
 have M32:za6 l.prog w K mg base 5 cR "bring" ["self","k","voter"] (zdb (zbr cP cA cV cR tL xA xV xL xR)):=⟨_,_,zhb T32 aT M25 M31 M12,KR,⟨a32,i32,k32⟩,B32⟩
 have F33:zck l.prog w K mg base 2 "chosen_pairs" ["letters","many"] (zcn (zbr cP cA cV cR tL xA xV xL xR)):=⟨_,_,zfy T33 aT (W.mg_none_of X G z_sorted) (W.mg_none_of X G z_tuple) ⟨_,W.mg_of X G y_VOTE⟩ F19,W.mg_of X G a33,k33,B33⟩
 have M34:za6 l.prog w K mg base 3 cR "chosen" ["self"] (zbM (zbr cP cA cV cR tL xA xV xL xR)):=⟨_,_,zgf T34 aT F33 M3,KR,⟨a34,i34,k34⟩,B34⟩
 have F35:zck l.prog w K mg base 1 "_law_cell" ["_law_script","_law_k"] (zbR (zbr cP cA cV cR tL xA xV xL xR)):=⟨_,_,zhT T35 aT (W.mg_none_of X G z_len),W.mg_of X G a35,k35,B35⟩
 have F36:zck l.prog w K mg base 1 "_law_mix" ["_law_cell_here","_law_prime","_law_many_here"] (zco (zbr cP cA cV cR tL xA xV xL xR)):=⟨_,_,ziN T36 aT ,W.mg_of X G a36,k36,B36⟩
 have F37:zck l.prog w K mg base 2 "_law_wishes" ["_law_script"] (zbK (zbr cP cA cV cR tL xA xV xL xR)):=⟨_,_,zgd T37 aT (W.mg_none_of X G z_range) (W.mg_none_of X G z_tuple) F35 F36,W.mg_of X G a37,k37,B37⟩
 have F38:zck l.prog w K mg base 2 "_law_many" ["_law_script"] (zcw (zbr cP cA cV cR tL xA xV xL xR)):=⟨_,_,zhS T38 aT F35 F36,W.mg_of X G a38,k38,B38⟩
 have F39:zck l.prog w K mg base 1 "_law_bits" ["_law_cell_here","_law_many_here"] (zdF (zbr cP cA cV cR tL xA xV xL xR)):=⟨_,_,zhU T39 aT (W.mg_none_of X G z_range),W.mg_of X G a39,k39,B39⟩
 have F40:zck l.prog w K mg base 2 "_law_acts" ["_law_letters","_law_cell_here","_law_askers","_law_many_here"] (zdG (zbr cP cA cV cR tL xA xV xL xR)):=⟨_,_,zhV T40 aT (W.mg_none_of X G z_len) (W.mg_none_of X G z_min) (W.mg_none_of X G z_range) F39 F36,W.mg_of X G a40,k40,B40⟩
 have F41:zck l.prog w K mg base 1 "chosen_wish" ["pairs"] (zcO (zbr cP cA cV cR tL xA xV xL xR)):=⟨_,_,zgc T41 aT (W.mg_none_of X G z_len),W.mg_of X G a41,k41,B41⟩
 have M42:za6 l.prog w K mg base 4 cR "choice" ["self"] (zcP (zbr cP cA cV cR tL xA xV xL xR)):=⟨_,_,zgg T42 aT F41 M34,KR,⟨a42,i42,k42⟩,B42⟩
 have F43:zck l.prog w K mg base 6 "_law_do" ["_law_room","_law_act"] (zeB (zbr cP cA cV cR tL xA xV xL xR)):=⟨_,_,ok__law_do T43 aT M14 M32 M15,W.mg_of X G a43,k43,B43⟩
 have F44:zck l.prog w K mg base 7 "_law_play" ["_law_room","_law_script","_law_cells"] (zdE (zbr cP cA cV cR tL xA xV xL xR)):=⟨_,_,zhR T44 aT (W.mg_none_of X G z_len) F40 F43 F38 F37 M13,W.mg_of X G a44,k44,B44⟩
 have F45:zck l.prog w K mg base 5 "_law_shown" ["_law_room","_law_askers","_law_many_here"] (zc8 (zbr cP cA cV cR tL xA xV xL xR)):=⟨_,_,zg8 T45 rfl (W.codeHd_of_K kb hdL) hBL aT (W.mg_none_of X G z_range) (W.mg_none_of X G z_sorted) M18 M42 M34 M13 M16 M17,W.mg_of X G a45,k45,B45⟩
 have M46:za6 l.prog w K mg base 1 cP "beyond" ["self"] (zcQ (zbr cP cA cV cR tL xA xV xL xR)):=⟨_,_,zgh T46 aT (W.mg_none_of X G z_max),KP,⟨a46,i46,k46⟩,B46⟩
 have xs:Xs K mg (zbr cP cA cV cR tL xA xV xL xR):=⟨⟨xsp,xtk⟩,W.mg_of X G xgA,W.mg_of X G xgV,W.mg_of X G xgL,W.mg_of X G xgR,xqA,xqV,xqL,⟨xpA,xtA,xbA,xhA,xfA,xmA⟩,⟨xpV,xtV,xbV,xhV,xfV,xmV⟩,⟨xpL,xtL,xbL,xhL,xfL,xmL⟩,xrA,xrV,xrL,⟨xkAA,xkAV,xkAL,xkAE⟩,⟨xkVA,xkVV,xkVL,xkVE⟩,⟨xkLA,xkLV,xkLL,xkLE⟩⟩
 have MB_Room_asker_at:zbp l.prog w K mg base 1 cR "asker_at" ["self","asker"] (zaV (zbr cP cA cV cR tL xA xV xL xR)):=⟨_,_,zeV T11 aT xs (W.mg_none_of X G z_len),KR,⟨a11,i11,k11⟩,B11⟩
 have MB_Room_voter_at:zbp l.prog w K mg base 1 cR "voter_at" ["self","voter"] (zaU (zbr cP cA cV cR tL xA xV xL xR)):=⟨_,_,zeT T12 aT xs (W.mg_none_of X G z_len),KR,⟨a12,i12,k12⟩,B12⟩
 have MB_Pile_letter_at:zbp l.prog w K mg base 1 cP "letter_at" ["self","k"] (zbI (zbr cP cA cV cR tL xA xV xL xR)):=⟨_,_,zem T25 aT xs (W.mg_none_of X G z_len),KP,⟨a25,i25,k25⟩,B25⟩
 have MB_Room_fall:zbp l.prog w K mg base 2 cR "fall" ["self","asker"] (zdJ (zbr cP cA cV cR tL xA xV xL xR)):=⟨_,_,zhg T15 aT xs M7 MB_Room_asker_at,KR,⟨a15,i15,k15⟩,B15⟩
 have MB_Room_ballot_of:zbp l.prog w K mg base 2 cR "ballot_of" ["self","asker"] (zbH (zbr cP cA cV cR tL xA xV xL xR)):=⟨_,_,zel T18 aT xs MB_Room_asker_at,KR,⟨a18,i18,k18⟩,B18⟩
 have MB_Room_promised:zbp l.prog w K mg base 2 cR "promised" ["self","voter"] (zb1 (zbr cP cA cV cR tL xA xV xL xR)):=⟨_,_,zeU T16 aT xs M9 MB_Room_voter_at,KR,⟨a16,i16,k16⟩,B16⟩
 have MB_Room_voted:zbp l.prog w K mg base 2 cR "voted" ["self","voter"] (zdk (zbr cP cA cV cR tL xA xV xL xR)):=⟨_,_,zgj T17 aT xs M10 MB_Room_voter_at,KR,⟨a17,i17,k17⟩,B17⟩
 have MB_Room_begin:zbp l.prog w K mg base 3 cR "begin" ["self","asker","least"] (zcj (zbr cP cA cV cR tL xA xV xL xR)):=⟨_,_,zgk T14 aT xs M6 MB_Room_asker_at,KR,⟨a14,i14,k14⟩,B14⟩
 have MB_Room_calm:zbp l.prog w K mg base 4 cR "calm" ["self","asker"] (zdK (zbr cP cA cV cR tL xA xV xL xR)):=⟨_,_,zhh T47 aT xs M46 MB_Room_begin,KR,⟨a47,i47,k47⟩,B47⟩
 have MB_Room_bringK:zbp l.prog w K mg base 2 cR "bring" ["self","k","voter"] (zcS (zbr cP cA cV cR tL xA xV xL xR)):=⟨_,_,zfD T32 aT xs MB_Pile_letter_at,KR,⟨a32,i32,k32⟩,B32⟩
 have MB_Room_bringV:zbp l.prog w K mg base 5 cR "bring" ["self","k","voter"] (zcR (zbr cP cA cV cR tL xA xV xL xR)):=⟨_,_,zfC T32 aT xs M25 M31 MB_Room_voter_at,KR,⟨a32,i32,k32⟩,B32⟩
 have FB__law_try:FnAtB l.prog w K mg base 6 "_law_try" ["_law_room","_law_way","_law_number"] (zd3 (zbr cP cA cV cR tL xA xV xL xR)):=⟨_,_,zhY T48 aT xs MB_Room_ballot_of MB_Room_begin MB_Room_bringK MB_Room_bringV MB_Room_calm MB_Room_fall MB_Room_promised MB_Room_voted,W.mg_of X G a48,k48,B48⟩
 have F49:zck l.prog w K mg base 7 "_law_said" ["_law_room","_law_way","_law_number"] (zdD (zbr cP cA cV cR tL xA xV xL xR)):=⟨_,_,zhQ T49 aT (W.mg_none_of X G z_ValueError) (W.mg_none_of X G z_isinstance) xs FB__law_try,W.mg_of X G a49,k49,B49⟩
 exact ok_law T50 aT (W.mg_none_of X G z_len) (W.mg_none_of X G z_range) F35 F38 F44 F49 F45 F37 M14 M13 N20
theorem walk{l:W.OpenLaw}{q:Program}{loose:List Str}{XP:(Str->Option Value)->Heap->Prop}{YP:World->Heap->Prop}{d:DefRec}{K:Params->W.Frag}{tL:Addr}(hn:l.most=some 63)(hdf:d.params.defaults=[])
  (hY:∀ (w:World) (h:Heap),YP w h->(K w.params).In h) (hY2:∀ (w:World) (h:Heap),YP w h->h.get? tL=some (W.tabObj #[]))
  (F:∀ (w:World) (mg:Str->Option Value) (fa:Addr) (h:Heap),(K w.params).In h->h.Ns mainGlobals mg->mg d.name=some (.ref fa) ->
   (∃ c,W.codeHdIn (K w.params) c tL=true)/\(K w.params).lookup tL=none/\∃ fd:FuncData,(∀ (s:Shared) (u:Value),BindsTo s fd ⟨[u],[]⟩ [("_law_script",u)])/\∀ base:Heap,(K w.params).In base->base.Ns mainGlobals mg->base.BuiltinsAt mg tL->FOk l.prog w (K w.params) mg base 8 fa fd ["_law_script"] (zhF tL lamQ lamP)) :
  W.WalkO q loose XP YP l.row.toRowW d [] (λf vs=>PySem.call f vs) :=
 L2.walk_ofT (n:=63) (k:=8) (x:="_law_script") (CX:=λ_=>CX0) (sp:=λw=>lSp ⟨K w.params,w,l.prog⟩ (zhF tL lamQ lamP)) hn (by rw[sizeLine_eq]; decide) hdf ⟨rfl,by decide,by decide⟩ hY hY2 F (λw H a ns hl hO hS=>law_startT hl hO hS) λ_ _ _ _ _ z=>z
end My
namespace PySem.W.Fast
def tw4968366319803064696:=0
def tw10752514233482317533:=0
def tw18181593552283223336:=0
def tw15765022737732858656:=0
def tw6504307696447160569:=0
def tw10309621482297901816:=0
def tw3308385464662588611:=0
def tw8545627688528636839:=0
def tw16773772997724337376:=0
def tw7806989757458905439:=0
def tw17465093315064306250:=0
def tw3932456638730205105:=0
def tw2881013989655693910:=0
def tw12557564606405192439:=0
def tw234080887652991401:=0
def tw13277088571276152020:=0
def tw17835984262643230004:=0
def tw8694350264876745430:=0
def tw12356961841172595735:=0
def tw15545732112169065454:=0
def tw310464757954758421:=0
def tw11719441529871033454:=0
def tw13623295197935012336:=0
def tw3904970176833656412:=0
def tw4855224070411280381:=0
def tw3692099164833507970:=0
def tw6034558245402978253:=0
def tw11128912660916854638:=0
def tw15399386353839563101:=0
def tw3079504103458947735:=0
def tw9972290836711372161:=0
def tw12693752651154625441:=0
def tw6617314961229510074:=0
def tw16637854758748917322:=0
def tw12160224912883148584:=0
def tw2661817239231399667:=0
def tw4508408238401099837:=0
def tw810537647626700029:=0
def tw16691916039724785123:=0
def tw1143980887088046331:=0
def tw14500327839468578296:=0
def tw6437807835841945450:=0
def tw13287443460873182928:=0
def tw10379014662606969688:=0
def tw5541478394431782657:=0
def tw3497751343308650576:=0
def tw6808715890439801302:=0
def tw1232820925803762650:=0
def tw6689952800555696893:=0
def tw5261287776126298066:=0
def tw8466631758918364543:=0
def tw1830127948756298301:=0
def tw10187906897654841021:=0
def tw1612701117486247900:=0
def tw5449138153136050666:=0
def tw16808056891157524040:=0
def tw14809821144616462504:=0
def tw7446016445436409493:=0
def tw7416404907305647789:=0
def tw15595805326327172777:=0
def tw16139189071978490395:=0
def tw11291681414254975414:=0
def tw7310046134366291293:=0
def tw2948388671197666617:=0
def tw11048008619670598541:=0
def tw8580532180681490161:=0
def tw18034074555525078866:=0
def tw18184273942213348004:=0
def tw3841269538745731874:=0
def tw9366684205323981152:=0
def tw14942823168045079494:=0
def tw8183084567963425713:=0
def tw12814214447970393309:=0
def tw9330135247940467013:=0
def tw16770284392527324134:=0
def tw11767295525451454666:=0
def tw7616748954173052367:=0
def tw6541702959128323656:=0
def tw2640586471064628300:=0
def tw9232448768254289415:=0
def tw16518987724320555122:=0
def tw16096507799145518689:=0
def tw389416894877985281:=0
def tw12796058365795739193:=0
def tw5650238733931683340:=0
def tw13243245087554195504:=0
def tw13361934611668965561:=0
def tw10448429697902839947:=0
def tw16048847817443058203:=0
def tw10642844310862017140:=0
def tw18080447077784605462:=0
def tw3167319909816115757:=0
def tw11091055561801620056:=0
def tw7833065424946692717:=0
def tw1958330574716222798:=0
def tw6152585139917298687:=0
def tw14803557606947580817:=0
def tw11594164277260644329:=0
def tw1703802995925418936:=0
def tw17964812577391152606:=0
def tw252684115440034441:=0
def tw11561655217434441689:=0
def tw5870020972907517676:=0
def tw15473848145475501057:=0
def tw4659244951461812358:=0
def tw11044529709072558260:=0
def tw3422802722759447098:=0
def tw11776231756198655069:=0
def tw4445583068513843091:=0
def tw15230130047467014157:=0
def tw9933600224036790299:=0
def tw18414451924099630818:=0
def tw12954517777461776924:=0
def tw6414949583278261768:=0
def tw11806208265548377414:=0
def tw12535631586854246423:=0
def tw6013418753700077491:=0
def tw14060689353556286180:=0
def tw10706364494147364444:=0
def tw5874077840395542335:=0
def tw15979975922434306533:=0
def tw2994466954695387413:=0
def tw17677261410419569793:=0
def tw17299193252505760427:=0
def tw9473284048240214365:=0
def tw11213278226901508530:=0
def tw12905041946464613965:=0
def tw3328994673118164204:=0
def tw8350495856459375168:=0
def tw3725774300940483080:=0
def tw10231214212884805648:=0
def tw1819671305805641347:=0
def tw17646147147459033600:=0
def tw18411087774664813288:=0
def tw17597978449508746905:=0
def tw6275428737239205600:=0
def tw13639243722011718118:=0
def tw13179199568456842621:=0
def tw11281980012368020664:=0
def tw8438905290191943874:=0
def tw320749705982406510:=0
def tw14271987878077085411:=0
def tw167410310915022967:=0
def tw11732533168613973569:=0
def tw6058571655929121590:=0
def tw14941992602691541533:=0
def tw8019085925944462937:=0
def tw10841656895607862251:=0
def tw3341586631969383027:=0
def tw10366152329996619453:=0
def tw2794978595643378541:=0
def tw15091869192719995992:=0
def tw14269104330556404410:=0
def tw13018660065571800739:=0
def tw2554543926291932316:=0
def tw12206127022224324098:=0
def tw94877076301644822:=0
def tw12984013779819499160:=0
def tw7407865994695389371:=0
def tw5807176098670422620:=0
def tw16828421033638754320:=0
def tw2847585397726903783:=0
def tw9128556873686019052:=0
def tw103278788943878918:=0
def tw11597663759303988141:=0
def tw6442859145548332020:=0
def tw14457988481290389065:=0
def tw15615910228182644730:=0
def tw1445185747287701744:=0
def tw11819874093747678534:=0
def tw12549822985729726394:=0
def tw10912007419686879491:=0
def tw10315721994620431816:=0
def tw9100510716335343648:=0
def tw7722254829885565895:=0
def tw6935244762913105118:=0
def tw4297104049655406374:=0
def tw4057343851958000944:=0
def tw1171906004309666518:=0
def tw9154203931155753251:=0
def tw17640143200599561673:=0
def tw8741853665423446382:=0
def tw9519704470172932555:=0
def tw6043799215841084808:=0
def tw3843888634319123402:=0
def tw17177033474573827144:=0
def tw9690160813332107057:=0
def tw7495087796805078737:=0
def tw15904317435131638683:=0
def tw2587651533859473311:=0
def tw1390896271349905233:=0
def tw4279220507008646590:=0
def tw6939531748136725847:=0
def tw6637661550789846089:=0
def tw13568188666539580660:=0
def tw4477694237016099248:=0
def tw6658171172452615441:=0
def tw12599269402271389660:=0
def tw7884335872809912841:=0
def tw1011177614322455503:=0
def tw7322544344830716283:=0
def tw16794401276813317525:=0
def tw567648733006067485:=0
def tw4299485955051374606:=0
def tw14812397587534506220:=0
def tw9336211191542730972:=0
def tw17770500113627815752:=0
def tw5485449024449629453:=0
def tw15830253558712998871:=0
def tw12126033810095632977:=0
def tw11191300566416240279:=0
def tw3483283121928953279:=0
def tw2973689468245211480:=0
def tw17329102023119877424:=0
def tw15246018049341996701:=0
def tw5232926136826927814:=0
def tw4415208130260956456:=0
def tw1709197940116873724:=0
def tw16669464208418414953:=0
def tw10360442917645116943:=0
def tw9930630842265407552:=0
def tw9877012989698682589:=0
def tw7326888822505373680:=0
def tw5464515959435507862:=0
def tw15716377668307309423:=0
def tw3354961981246936875:=0
def tw15210247106259020503:=0
def tw13337289542236233482:=0
def tw10169872253336335539:=0
def tw5309626871837971484:=0
def tw3593900002360813384:=0
def tw9720029026476575637:=0
def tw14684280286806942784:=0
def tw14294813781849606948:=0
def tw12626243757326296824:=0
def tw9830782657111485094:=0
def tw12190267182675014327:=0
def tw1334990000459941156:=0
def tw12630004934666323652:=0
def tw4530473137065073763:=0
def tw1666967437313525119:=0
def tw16102177306880781565:=0
def tw10764169631726581059:=0
def tw1711526632442806779:=0
def tw369923802417033246:=0
def tw5937391788923514688:=0
def tw15717087424974712827:=0
def tw542921187155902036:=0
def tw5200811097886093393:=0
def tw16675530932031998026:=0
def tw13603649886362925599:=0
def tw17087307786698544497:=0
def tw13039268466238845521:=0
def tw17633343146149125802:=0
def tw122478409298697050:=0
def tw12068546560680257791:=0
def tw3100422152441235624:=0
def tw13113976578973478866:=0
def tw4121646479645906054:=0
def tw12650773717793494821:=0
def tw5018527355824225541:=0
def tw6939345796567577420:=0
def tw17008746807861705638:=0
def tw6619131623393557133:=0
def tw1289363647675673909:=0
def tw4248468050987490554:=0
def tw2612427271062150682:=0
def tw11959755639542582102:=0
def tw3600811762963069076:=0
def tw15077952445435113851:=0
def tw5753141161589423130:=0
def tw10653895209874235642:=0
def tw15054342420824309015:=0
def tw10645392226438462496:=0
def tw1788076888844663937:=0
def tw4573757597010789417:=0
def tw13853991735038652238:=0
def tw13643071393947040015:=0
def tw10462385827751671886:=0
def tw14406759230047750214:=0
def tw12962950224422732325:=0
def tw17946380377456033970:=0
def tw310297909883380938:=0
def tw2191473306825793854:=0
def tw2014843661156738808:=0
def tw4968416797841143023:=0
def tw2996611088971947201:=0
def tw14085420682327540538:=0
def tw4202913869129767262:=0
def tw14110736643086671417:=0
def tw12480566969982792821:=0
def tw494073523343091096:=0
def tw15793806470443386879:=0
def tw11119913995249841628:=0
def tw14314740563996674149:=0
def tw1030281389413849797:=0
def tw1776126097903540292:=0
def tw13271172716424943777:=0
def tw16570449228528797093:=0
def tw17694433742595524511:=0
def tw9414394271419047741:=0
def tw8645701671525304811:=0
def tw14850593166503749899:=0
def tw1242570619094929778:=0
def tw10578082404128821430:=0
def tw13284912634279864887:=0
def tw8350646124851116407:=0
def tw6879559315120546373:=0
def tw4521208503155210703:=0
def tw1977125001779057081:=0
def tw15643932941098236717:=0
def tw9947091350215392546:=0
def tw17349130896569406313:=0
def tw15452407223172258627:=0
def tw14840052589259215184:=0
def tw14222102839248851217:=0
def tw13731662523604400072:=0
def tw7663133354144737487:=0
def tw7319488777417470187:=0
def tw5221555871685554676:=0
def tw18188474598393020517:=0
def tw16382950509025464902:=0
def tw14454810404753909152:=0
def tw1083481796501341746:=0
def tw8009031574328329033:=0
def tw7844269262355843094:=0
def tw5177929819131131547:=0
def tw15831223112355819033:=0
def tw11108895178563806422:=0
def tw775056784473476358:=0
def tw5344726637854752570:=0
def tw4269134199749562961:=0
def tw18438323469529820890:=0
def tw10402526015464877614:=0
def tw9745574415673250504:=0
def tw5220488258712755874:=0
def tw3388308389690137139:=0
def tw1831281996694316310:=0
def tw1353792703768868042:=0
def tw9967219621510232764:=0
def tw5658584015341528135:=0
def tw18179667416349268774:=0
def tw11670538355376023473:=0
def tw6730444001844260281:=0
def tw5244150686914473260:=0
def tw10944855122724776395:=0
end PySem.W.Fast
open PySem PySem.W PyProof.Rows
set_option maxRecDepth 100000 in
set_option maxHeartbeats 0 in
theorem PySem.Challenge.cw_onechoice_k02_refusals_holds : PySem.Challenge.rw_onechoice_k02_refusals.Holds := by
 w_on; o_law; k_head; (case hw=>w_witness2)
 k_fill
 refine My.walk (l:=PySem.Challenge.rw_onechoice_k02_refusals) rfl rfl (λw h Y=>PySem.W.km_in_of Y) (λw h Y=>PySem.W.km_tabs_of Y _ (.head _)) ?F
 case F =>
  intro w mg fa h KX G hmg
  refine' My.all_mk KX G hmg ?_ ?_ ?_ ?_ ?_ ?_ ?_ ?_ ?_ ?_ ?_ ?_ ?_ ?_ ?_ ?_ ?_ ?_ ?_ ?_ ?_ ?_ ?_ ?_ ?_ ?_ ?_ ?_ ?_ ?_ ?_ ?_ ?_ ?_ ?_ ?_ ?_ ?_ ?_ ?_ ?_ ?_ ?_ ?_ ?_ ?_ ?_ ?_ ?_ ?_ ?_ ?_ ?_ ?_ ?_ ?_ ?_ ?_ ?_ ?_ ?_ ?_ ?_ ?_ ?_ ?_ ?_ ?_ ?_ ?_ ?_ ?_ ?_ ?_ ?_ ?_ ?_ ?_ ?_ ?_ ?_ ?_ ?_ ?_ ?_ ?_ ?_ ?_ ?_ ?_ ?_ ?_ ?_ ?_ ?_ ?_ ?_ ?_ ?_ ?_ ?_ ?_ ?_ ?_ ?_ ?_ ?_ ?_ ?_ ?_ ?_ ?_ ?_ ?_ ?_ ?_ ?_ ?_ ?_ ?_ ?_ ?_ ?_ ?_ ?_ ?_ ?_ ?_ ?_ ?_ ?_ ?_ ?_ ?_ ?_ ?_ ?_ ?_ ?_ ?_ ?_ ?_ ?_ ?_ ?_ ?_ ?_ ?_ ?_ ?_ ?_ ?_ ?_ ?_ ?_ ?_ ?_ ?_ ?_ ?_ ?_ ?_ ?_ ?_ ?_ ?_ ?_ ?_ ?_ ?_ ?_ ?_ ?_ ?_ ?_ ?_ ?_ ?_ ?_ ?_ ?_ ?_ ?_ ?_ ?_ ?_ ?_ ?_ ?_ ?_ ?_ ?_ ?_ ?_ ?_ ?_ ?_ ?_ ?_ ?_ ?_ ?_ ?_ ?_ ?_ ?_ ?_ ?_ ?_ ?_ ?_ ?_ ?_ ?_ ?_ ?_ ?_ ?_ ?_ ?_ ?_ ?_ ?_ ?_ ?_ ?_ ?_ ?_ ?_ ?_ ?_ ?_ ?_ ?_ ?_ ?_ ?_ ?_ ?_ ?_ ?_ ?_ ?_ ?_ ?_ ?_ ?_ ?_ ?_ ?_ ?_ ?_ ?_ ?_ ?_ ?_ ?_ ?_ ?_ ?_ ?_ ?_ ?_ ?_ ?_ ?_ ?_ ?_ ?_ ?_ ?_ ?_ ?_ ?_ ?_ ?_ ?_ ?_ ?_ ?_ ?_ ?_ ?_ ?_ ?_ ?_ ?_ ?_ ?_ ?_ ?_ ?_ ?_ ?_ ?_ ?_ ?_ ?_ ?_ ?_ ?_ ?_ ?_ ?_ ?_ ?_ ?_ ?_ ?_ ?_ ?_ ?_ ?_ ?_ ?_ ?_ ?_ ?_ ?_ ?_ ?_ ?_ ?_ ?_ ?_ ?_ ?_ ?_ ?_ ?_ ?_ ?_ ?_ ?_ ?_ ?_
  all_goals first|k_is|kernel_rfl|skip