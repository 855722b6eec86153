import Derived.Test.YtfnockbgkcgpkaaGreatTkac
import Derived.Test.YtfnockbgkcgpkaaGreatTkam
set_option linter.all false
set_option maxRecDepth 100000
set_option maxHeartbeats 16000000
namespace Go.Proofs.YtfnockbgkcgpkaaGreat
open Go.RowKit Go.Proofs.Panes
abbrev ze (w:World)(base:Nat)(v:Value)(l:List Bool):Prop:=w.ownsRow base 4 1 v l.length (l.map Value.bool)
theorem zm {w w':World}{base:Nat}{v:Value}{l:List Bool}(h:ze w base v l)(hb:Below w.heap.size w w'):ze w' base v l:=World.ownsRow.kept h (kj hb none) (by cases hv:v.ownBlock<;>simp)
theorem qi6 {w:World}{base:Nat}{v:Value}{l:List Bool}(h:ze w base v l)(hne:l≠[]):∃ g cap,v=.slice (some ⟨g,0,none⟩) l.length cap/\base<=g/\g<w.heap.size:=by
 rcases h.2 with ⟨_,hn⟩ | ⟨g,cap,cur,rfl,hb,hg,_⟩
 ·exact absurd (List.length_eq_zero_iff.1 hn) hne
 ·exact⟨g,cap,rfl,hb,(Array.getElem?_eq_some_iff.1 hg).1⟩
theorem xm {w:World}{base g n cap:Nat}{l:List Bool}(h:ze w base (.slice (some ⟨g,0,none⟩) n cap) l){j:Nat}{x:Bool}(hx:l[j]?=some x):w.cell? ⟨g,j,none⟩=some (.bool x):=by
 have:=World.ownsRow.cells h (g:=g) rfl j (.bool x) (by simp[hx]);have hadd:(⟨g,0,none⟩:Addr).add j=⟨g,j,none⟩:=(by unfold Addr.add;split<;>simp_all);rwa[hadd] at this
end Go.Proofs.YtfnockbgkcgpkaaGreat
