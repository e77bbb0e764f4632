import Derived.Test.YtabfapijgfjflaaGreatMLaw12
import Derived.Test.YtabfapijgfjflaaGreatMWz12
import Derived.Test.YtabfapijgfjflaaGreatMAl
set_option maxRecDepth 100000
namespace Go.Proofs.YtabfapijgfjflaaGreat
open Go.ChangeShapes Go.WideShapes Go.ChangeAt Go.RowKit
theorem resolveMade_lifted(os:Os)(started:os.Started)(H:Type)(enc:TypeId×Value->H):
 ReturnsInHanded {} Tryz.checked os 6 .any (Rows.resolveMadeSpec.pre6 enc Tryz.prog Tryz.f6 Rows.resolveMadeRow.domain false) (Rows.resolveMadeSpec.post enc Tryz.prog Tryz.f6 false true false false):=by
 refine returnsInHanded_of_change_sized (C:=Tryz.checked) own started (by kernel_rfl) Tryz.func6
  (ChangeSpec.witness6 (enc:=enc) (C:=Tryz.checked) false ⟨#[],#[.slice none 0 0,.slice none 0 0,.int .i64 0],[]⟩ 8 (by kernel_rfl) (by kernel_rfl) (by kernel_rfl) (by kernel_rfl)) ?_
 intro W base args ds gs before hval hW _ hsz _;have hW':=hW;obtain⟨p,q,hA0,hV,rfl,_,_⟩:=hW;have hA:DataW.TrodAll enc Tryz.prog W 0 (fun _=>true) true Tryz.f6.params.toList args.toList ds p:=hA0;have hval':∀(j:Nat) t v,Tryz.f6.params[j]? =some t->args[j]? =some v->Value.okWide Tryz.prog W .any base t v:=hval;rw[Tryz.params6] at hA hval';obtain⟨v0,v1,v2,d0,d1,d2,p0,p1,p2,rfl,rfl,rfl,h0,h1,h2⟩:=trodAll_three hA;obtain⟨x0,a0,c0,rfl,m0⟩:=aqg (hval' 0 _ v0 rfl rfl) h0;obtain⟨x1,a1,c1,rfl,m1⟩:=aqh (hval' 1 _ v1 rfl rfl) h1;obtain⟨x2,rfl,rfl,rfl,hw2⟩:=open_int Tryz.underlying3 (hval' 2 _ v2 rfl rfl) h2;refine(afI x0 x1 x2 a0 c0 a1 c1 W hw2 m0 m1 (amq hsz (j:=1) (by kernel_rfl) rfl h1)).mono fun e W' ⟨he,hb⟩=> ?_;subst he;exact⟨_,rfl,am5 laid Tryz.underlying4 (by kernel_rfl) rfl (of_decide_eq_true (by kernel_rfl)) (fun gs hg=>by subst hg;rfl) hW' hb⟩
theorem resolveMade_holds:Rows.ResolveMadeSaid:=
 OpenClaim.holds_of_wide 6 Tryz.f6 rfl rfl rfl rfl rfl rfl rfl ⟨rfl,rfl,rfl,rfl,rfl⟩ rfl rfl rfl rfl rfl (by kernel_rfl) Tryz.func6 (by kernel_rfl)
  (of_decide_eq_true (by kernel_rfl)) (by unfold Func.isWrapper;first|(rw[if_pos (by decide+kernel)];kernel_rfl)|(rw[if_neg (by decide+kernel)];exact⟨rfl,rfl⟩))
  (fun os started H enc _=>resolveMade_lifted os started H enc)
end Go.Proofs.YtabfapijgfjflaaGreat
