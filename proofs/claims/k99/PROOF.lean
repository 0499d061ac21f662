import PyProof.Rows.All
import HandS.ForMost
import HandS.Wide
import HandS.Flow
import HandS.SortInts
import HandS.IsInst
import HandS.Deep
import HandS.Lambda
import HandS.Exc
import HandS.ForExc
import HandS.TupAny
import HandS.CallSlots
import HandS.Words
import HandS.WordsExc
import HandS.Defaults
import Wide.All
import OpenK.AllK
import Wide.FinOn
import PyProof.ZipIter
import HandS.Zip0
import HandS.Zip
import HandS.Iter
import HandS.Walk
import HandS.TryOnly
import HandS.Style
import HandS.Conv
import HandS.TupLe
import PyProof.Rows.ListMul
import PyProof.Rows.SeqMore
import HandS.SlotsOwn
import HandS.Ends
import HandS.TryMany
import HandS.EndTab
import HandS.EndBits
import KE.KNest
import HandS.RaiseMore
import PyProof.ReprRoads
import HandS.Star
import HandS.SetFor
import HandS.Strs
import HandS.CallLocal
import KE.KCallOwn
import PyProof.InstNe
import HandS.OwnEq
import PyProof.FactsAll.object_2
import PyProof.FactsLen
import PyProof.InstSpecial
import HandS.ClsMeth
import HandS.SortKw
import KE.DataMinMax
import HandS.Comp
import HandS.DictComp
import PyProof.TupleCall
import KE.KExcIs
import HandS.ExcValue
import HandS.ExcField
import HandS.ExcIs
import PyProof.EqAt
import PyProof.EqKinds
import Open.SpecLaws
import KE.OsGo
import KE.KExcInit
import HandS.ForSpec
import HandS.MakeKw
import PySem.Challenge.RW_risingday_k99_errors_and_wrong_kinds
set_option Elab.async false
set_option linter.all false
set_option maxRecDepth 100000
set_option maxHeartbeats 2000000
namespace Mp
open PySem L2
/-- a value as a tree: what is built once and not changed any more -/
inductive D where
  | non | bl (b : Bool) | int (i : Int) | str (s : Str)
  | lst (ds : List D) | tup (ds : List D)
  | obj (C : Str) (ns : List Str) (ds : List D)
  | raw (v : V)
  | dct | fn (x : Str)
  | dk (ks : List Key) (ds : List D)
  | err (C f : Str) (d : D)
abbrev AS := Addr → Prop
/-- an exception that is kept, at a: its class, its dict -/
def ErO (a : Addr) (cls : Value) (d : Option Addr) : HO := .ext fun h => ∃ (oe : Obj) (vs : Array Value), h.get? a = some oe ∧ Zc cls d oe ∧ oe.data = .fields vs
theorem erO_ok {P : Program} {w : World} {H : Hp} {h : Heap} {a : Addr} {cls : Value} {d : Option Addr} {oe : Obj} {vs : Array Value} (e : h.get? a = some oe) (z : Zc cls d oe) (k : oe.data = .fields vs) : ObjOk P w H h a (ErO a cls d) :=
  ⟨⟨oe, vs, e, z, k⟩, ⟨oe, e⟩, fun _ _ ⟨o, v, q, r⟩ k => ⟨o, v, k o q, r⟩⟩
/-- where a class of the module stands -/
def clsAt (K : PySem.W.Frag) (x : Str) : Addr := match PySem.W.nsIn K mainGlobals x with
  | some (some (.ref a)) => a
  | _ => 0
theorem clsAt_of {K : PySem.W.Frag} {x : Str} {a : Addr} (h : PySem.W.nsIn K mainGlobals x = some (some (.ref a))) : clsAt K x = a := by unfold clsAt; rw [h]
/-- a list of the module's own top -/
def Wr (K : PySem.W.Frag) (a : Addr) (xs : List V) : Prop := ∃ (o : Obj) (its : Array Value) (n : Nat), K.lookup a = some o ∧ o.cls = .type "list" ∧ o.dict = none ∧ o.data = .seq its n ∧ its.size ≤ sizeLine ∧ Vals xs its.toList
def RdK (K : PySem.W.Frag) (H : Hp) (M : AS) (a : Addr) (xs : List V) : Prop := (¬ M a ∧ Rd H a (.lst xs)) ∨ Wr K a xs
mutual
/-- v shows d in H, by no address of M -/
def Rep (K : PySem.W.Frag) (H : Hp) (M : AS) : D → V → Prop
  | .non, v => v = .non
  | .bl b, v => v = .bl b
  | .int i, v => v = .int i
  | .str s, v => v = .str s
  | .raw w, v => v = w
  | .dct, v => ∃ a kvs, v = .ref a ∧ ¬ M a ∧ H a = some (.dK kvs)
  | .fn x, v => v = .ref (clsAt K x)
  | .dk ks ds, v => ∃ a o xs, v = .ref a ∧ ¬ M a ∧ H a = some (.frz o (.dK (ks.zip xs))) ∧ ks.length = xs.length ∧ RepL K H M ds xs
  | .err C f d, v => ∃ a dd x, v = .ref a ∧ ¬ M a ∧ H a = some (ErO a (.ref (clsAt K C)) (some dd)) ∧ H dd = some (.xd [(f, x)]) ∧ Rep K H M d x
  | .lst ds, v => ∃ a xs, v = .ref a ∧ RdK K H M a xs ∧ RepL K H M ds xs
  | .tup ds, v => ∃ a xs, v = .ref a ∧ ¬ M a ∧ Rd H a (.tup xs) ∧ RepL K H M ds xs
  | .obj C ns ds, v => ∃ a dx xs, v = .ref a ∧ ¬ M a ∧ H a = some (.ins (clsAt K C) dx (ns.zip xs)) ∧ ns.length = xs.length ∧ RepL K H M ds xs
def RepL (K : PySem.W.Frag) (H : Hp) (M : AS) : List D → List V → Prop
  | [], xs => xs = []
  | d :: ds, xs => ∃ x ys, xs = x :: ys ∧ Rep K H M d x ∧ RepL K H M ds ys
end
/-- the tables of code objects of the program's defs, with the names of their lambdas -/
class TabsW where
  T : List (Addr × Str)
/-- no table of code objects -/
def NT (o : HO) : Prop := ∀ ps, o ≠ .tbl ps
/-- neither a table nor a code object -/
structure Pl (o : HO) : Prop where
  nt : NT o
  nx : ∀ c q, o ≠ LamX.CodeO c q
  nd : ∀ fs, o ≠ .xd fs
theorem nt_ero {a : Addr} {c : Value} {d : Option Addr} : NT (ErO a c d) := fun _ z => by unfold ErO at z; cases z
theorem nt_frz {o : Obj} {u : HO} : NT (.frz o u) := fun _ z => by cases z
theorem nt_dK {xs : List (Key × V)} : NT (.dK xs) := fun _ z => by cases z
theorem nt_lst {xs : List V} : NT (.lst xs) := fun _ z => by cases z
theorem nt_tup {xs : List V} : NT (.tup xs) := fun _ z => by cases z
theorem nt_ins {C : Addr} {d : Addr} {xs : List (Str × V)} : NT (.ins C d xs) := fun _ z => by cases z
theorem pl_lst {xs : List V} : Pl (.lst xs) := ⟨nt_lst, (fun _ _ z => by unfold LamX.CodeO at z; cases z), (fun _ z => by cases z)⟩
/-- something stands there that is no table of code objects -/
def Lv (H : Hp) (a : Addr) : Prop := ∃ o, H a = some o ∧ NT o
theorem Lv.ne {H : Hp} {a : Addr} (h : Lv H a) : H a ≠ none := fun z => by obtain ⟨o, e, _⟩ := h; rw [e] at z; cases z
theorem nn_of {H : Hp} {a : Addr} (h : H a = none) : ¬ Lv H a := fun z => z.ne h
theorem Lv.lst {H : Hp} {a : Addr} {xs : List V} (h : H a = some (.lst xs)) : Lv H a := ⟨_, h, nt_lst⟩
theorem Lv.dK {H : Hp} {a : Addr} {xs : List (Key × V)} (h : H a = some (.dK xs)) : Lv H a := ⟨_, h, nt_dK⟩
theorem Lv.ins {H : Hp} {a C d : Addr} {xs : List (Str × V)} (h : H a = some (.ins C d xs)) : Lv H a := ⟨_, h, nt_ins⟩
variable [TabsW]
/-- outside M all stands as it stood; tables of code objects may grow -/
structure Stp (M : AS) (H H' : Hp) : Prop where
  st : ∀ a o, H a = some o → ¬ M a → NT o → H' a = some o
  mo : ∀ a, Lv H a → Lv H' a
  tb : ∀ P q, (P, q) ∈ TabsW.T → LamX.TabS H P q → LamX.TabS H' P q
  xd : ∀ a fs, H a = some (.xd fs) → H' a = some (.xd fs)
theorem Stp.refl {M : AS} {H : Hp} : Stp M H H := ⟨fun _ _ h _ _ => h, fun _ h => h, fun _ _ _ h => h, fun _ _ h => h⟩
theorem Stp.trans {M : AS} {H H1 H2 : Hp} (a : Stp M H H1) (b : Stp M H1 H2) : Stp M H H2 := ⟨fun x o h n t => b.st x o (a.st x o h n t) n t, fun x h => b.mo x (a.mo x h), fun P q m h => b.tb P q m (a.tb P q m h), fun x fs h => b.xd x fs (a.xd x fs h)⟩
theorem Stp.weak {M M' : AS} {H H' : Hp} (a : Stp M H H') (h : ∀ x, M x → M' x) : Stp M' H H' := ⟨fun x o e n t => a.st x o e (fun q => n (h x q)) t, a.mo, a.tb, a.xd⟩
theorem mo_upd {H : Hp} {p : Addr} {o : HO} (ho : NT o) : ∀ a, Lv H a → Lv (upd H p o) a := fun a h => by
  by_cases e : a = p
  · rw [e]; exact ⟨o, upd_same, ho⟩
  · obtain ⟨u, h1, h2⟩ := h; exact ⟨u, by rw [upd_ne e]; exact h1, h2⟩
theorem mo_new {H : Hp} {p : Addr} {o : HO} (hp : H p = none) : ∀ a, Lv H a → Lv (upd H p o) a := fun a h => by
  obtain ⟨u, h1, h2⟩ := h; exact ⟨u, by rw [upd_ne (ne_of_none h1 hp)]; exact h1, h2⟩
theorem tab_upd {H : Hp} {p : Addr} {o : HO} (hp : ∀ u, H p = some u → Pl u) : ∀ P q, LamX.TabS H P q → LamX.TabS (upd H p o) P q := by
  rintro P q ⟨ps, h1, h2, h3⟩
  have n1 : P ≠ p := fun z => by subst z; exact (hp _ h1).nt ps rfl
  refine ⟨ps, by rw [upd_ne n1]; exact h1, h2, fun pos cv hc => ?_⟩
  obtain ⟨c, e1, e2⟩ := h3 pos cv hc
  have n2 : c ≠ p := fun z => by subst z; exact (hp _ e2).nx _ _ rfl
  exact ⟨c, e1, by rw [upd_ne n2]; exact e2⟩
theorem xd_upd {H : Hp} {p : Addr} {o : HO} (hp : ∀ u, H p = some u → Pl u) (a : Addr) (fs : List (Str × V)) (h : H a = some (.xd fs)) : upd H p o a = some (.xd fs) := by
  rw [upd_ne (fun z => by subst z; exact (hp _ h).nd fs rfl)]; exact h
theorem Stp.new {M : AS} {H : Hp} {p : Addr} {o : HO} (h : H p = none) : Stp M H (upd H p o) := ⟨fun a u e _ _ => by
  rw [upd_ne (ne_of_none e h)]
  exact e, mo_new h, fun P q _ => tab_upd (fun u z => by rw [h] at z; cases z) P q, fun a fs e => by rw [upd_ne (ne_of_none e h)]; exact e⟩
theorem Stp.set {M : AS} {H : Hp} {p : Addr} {o : HO} (h : M p) (hp : ∀ u, H p = some u → Pl u) (ho : NT o := by first | exact nt_lst | exact nt_ins | exact nt_tup) : Stp M H (upd H p o) := ⟨fun a u e n _ => by
  rw [upd_ne (fun z => n (by rw [z]; exact h))]
  exact e, mo_upd ho, fun P q _ => tab_upd hp P q, fun a fs e => xd_upd hp a fs e⟩
/-- a list stands there -/
theorem pl_at {H : Hp} {p : Addr} {xs : List V} (h : H p = some (.lst xs)) : ∀ u, H p = some u → Pl u := fun u z => by rw [h] at z; cases z; exact pl_lst
theorem Rd.stp {M : AS} {H H' : Hp} {a : Addr} {u : HO} (e : Stp M H H') (n : ¬ M a) (nu : NT u) (h : Rd H a u) : Rd H' a u := by
  rcases h with h | ⟨o, h⟩
  · exact .inl (e.st _ _ h n nu)
  · exact .inr ⟨o, e.st _ _ h n (fun _ z => by cases z)⟩
theorem Rd.ne {H : Hp} {a : Addr} {u : HO} (h : Rd H a u) (nu : NT u) : Lv H a := by
  rcases h with h | ⟨o, h⟩
  · exact ⟨u, h, nu⟩
  · exact ⟨_, h, fun _ z => by cases z⟩
theorem Rd.l {K : PySem.W.Frag} {H : Hp} {a : Addr} {xs : List V} (h : Rd H a (.lst xs)) : SqL K H a xs := .inl h
theorem Rd.t {K : PySem.W.Frag} {H : Hp} {a : Addr} {xs : List V} (h : Rd H a (.tup xs)) : SqT K H a xs := .inl h
section
variable {K : PySem.W.Frag} {H H' : Hp} {M M' : AS}
theorem RdK.l {a : Addr} {xs : List V} (h : RdK K H M a xs) : SqL K H a xs := h.elim (fun q => .inl q.2) .inr
theorem RdK.ofS {a : Addr} {xs : List V} (n : ¬ M a) (h : SqL K H a xs) : RdK K H M a xs := h.elim (fun q => .inl ⟨n, q⟩) .inr
theorem RdK.stp {a : Addr} {xs : List V} (e : Stp M H H') (m : ∀ x, M' x → M x) (h : RdK K H M a xs) : RdK K H' M' a xs := h.elim (fun q => .inl ⟨fun z => q.1 (m a z), Rd.stp e q.1 nt_lst q.2⟩) .inr
theorem RdK.grow {a : Addr} {xs : List V} (m : ∀ x, M' x → M x ∨ ¬ Lv H x) (h : RdK K H M a xs) : RdK K H M' a xs := h.elim (fun q => .inl ⟨fun z => (m a z).elim q.1 fun w => w (Rd.ne q.2 nt_lst), q.2⟩) .inr
mutual
theorem Rep.stp (e : Stp M H H') (m : ∀ x, M' x → M x) : ∀ (d : D) (v : V), Rep K H M d v → Rep K H' M' d v
  | .non, v, h => by unfold Rep at h ⊢; exact h
  | .bl b, v, h => by unfold Rep at h ⊢; exact h
  | .int i, v, h => by unfold Rep at h ⊢; exact h
  | .str s, v, h => by unfold Rep at h ⊢; exact h
  | .raw w, v, h => by unfold Rep at h ⊢; exact h
  | .fn x, v, h => by unfold Rep at h ⊢; exact h
  | .dct, v, h => by
    unfold Rep at h ⊢
    obtain ⟨a, kvs, rfl, n, q⟩ := h
    exact ⟨a, kvs, rfl, fun z => n (m a z), e.st _ _ q n nt_dK⟩
  | .dk ks ds, v, h => by
    unfold Rep at h ⊢
    obtain ⟨a, o, xs, rfl, n, q, l, r⟩ := h
    exact ⟨a, o, xs, rfl, fun z => n (m a z), e.st _ _ q n nt_frz, l, RepL.stp e m ds xs r⟩
  | .err C f d, v, h => by
    unfold Rep at h ⊢
    obtain ⟨a, dd, x, rfl, n, q1, q2, r⟩ := h
    exact ⟨a, dd, x, rfl, fun z => n (m a z), e.st _ _ q1 n nt_ero, e.xd _ _ q2, Rep.stp e m d x r⟩
  | .lst ds, v, h => by
    unfold Rep at h ⊢
    obtain ⟨a, xs, rfl, q, r⟩ := h
    exact ⟨a, xs, rfl, q.stp e m, RepL.stp e m ds xs r⟩
  | .tup ds, v, h => by
    unfold Rep at h ⊢
    obtain ⟨a, xs, rfl, n, q, r⟩ := h
    exact ⟨a, xs, rfl, fun z => n (m a z), Rd.stp e n nt_tup q, RepL.stp e m ds xs r⟩
  | .obj C ns ds, v, h => by
    unfold Rep at h ⊢
    obtain ⟨a, dx, xs, rfl, n, q, z, r⟩ := h
    exact ⟨a, dx, xs, rfl, fun z => n (m a z), e.st _ _ q n nt_ins, z, RepL.stp e m ds xs r⟩
theorem RepL.stp (e : Stp M H H') (m : ∀ x, M' x → M x) : ∀ (ds : List D) (xs : List V), RepL K H M ds xs → RepL K H' M' ds xs
  | [], xs, h => by unfold RepL at h ⊢; exact h
  | d :: ds, xs, h => by
    unfold RepL at h ⊢
    obtain ⟨x, ys, rfl, r, q⟩ := h
    exact ⟨x, ys, rfl, Rep.stp e m d x r, RepL.stp e m ds ys q⟩
end
mutual
/-- other addresses may be set apart, if nothing stood there -/
theorem Rep.grow (m : ∀ x, M' x → M x ∨ ¬ Lv H x) : ∀ (d : D) (v : V), Rep K H M d v → Rep K H M' d v
  | .non, v, h => by unfold Rep at h ⊢; exact h
  | .bl b, v, h => by unfold Rep at h ⊢; exact h
  | .int i, v, h => by unfold Rep at h ⊢; exact h
  | .str s, v, h => by unfold Rep at h ⊢; exact h
  | .raw w, v, h => by unfold Rep at h ⊢; exact h
  | .fn x, v, h => by unfold Rep at h ⊢; exact h
  | .dct, v, h => by
    unfold Rep at h ⊢
    obtain ⟨a, kvs, rfl, n, q⟩ := h
    exact ⟨a, kvs, rfl, fun z => (m a z).elim n fun w => w (Lv.dK q), q⟩
  | .dk ks ds, v, h => by
    unfold Rep at h ⊢
    obtain ⟨a, o, xs, rfl, n, q, l, r⟩ := h
    exact ⟨a, o, xs, rfl, fun z => (m a z).elim n fun w => w ⟨_, q, nt_frz⟩, q, l, RepL.grow m ds xs r⟩
  | .err C f d, v, h => by
    unfold Rep at h ⊢
    obtain ⟨a, dd, x, rfl, n, q1, q2, r⟩ := h
    exact ⟨a, dd, x, rfl, fun z => (m a z).elim n fun w => w ⟨_, q1, nt_ero⟩, q1, q2, Rep.grow m d x r⟩
  | .lst ds, v, h => by
    unfold Rep at h ⊢
    obtain ⟨a, xs, rfl, q, r⟩ := h
    exact ⟨a, xs, rfl, q.grow m, RepL.grow m ds xs r⟩
  | .tup ds, v, h => by
    unfold Rep at h ⊢
    obtain ⟨a, xs, rfl, n, q, r⟩ := h
    exact ⟨a, xs, rfl, fun z => (m a z).elim n fun w => w (Rd.ne q nt_tup), q, RepL.grow m ds xs r⟩
  | .obj C ns ds, v, h => by
    unfold Rep at h ⊢
    obtain ⟨a, dx, xs, rfl, n, q, z, r⟩ := h
    exact ⟨a, dx, xs, rfl, fun z => (m a z).elim n fun w => w (Lv.ins q), q, z, RepL.grow m ds xs r⟩
theorem RepL.grow (m : ∀ x, M' x → M x ∨ ¬ Lv H x) : ∀ (ds : List D) (xs : List V), RepL K H M ds xs → RepL K H M' ds xs
  | [], xs, h => by unfold RepL at h ⊢; exact h
  | d :: ds, xs, h => by
    unfold RepL at h ⊢
    obtain ⟨x, ys, rfl, r, q⟩ := h
    exact ⟨x, ys, rfl, Rep.grow m d x r, RepL.grow m ds ys q⟩
end
theorem RepL.length : ∀ {ds : List D} {xs : List V}, RepL K H M ds xs → ds.length = xs.length
  | [], xs, h => by unfold RepL at h; subst h; rfl
  | d :: ds, xs, h => by
    unfold RepL at h
    obtain ⟨x, ys, rfl, r, q⟩ := h
    simp [RepL.length q]
theorem RepL.nil : RepL K H M [] [] := by unfold RepL; rfl
theorem RepL.cons {d : D} {ds : List D} {x : V} {xs : List V} (h : Rep K H M d x) (r : RepL K H M ds xs) : RepL K H M (d :: ds) (x :: xs) := by unfold RepL; exact ⟨x, xs, rfl, h, r⟩
theorem RepL.append : ∀ {ds es : List D} {xs ys : List V}, RepL K H M ds xs → RepL K H M es ys → RepL K H M (ds ++ es) (xs ++ ys)
  | [], es, xs, ys, h, r => by unfold RepL at h; subst h; exact r
  | d :: ds, es, xs, ys, h, r => by
    unfold RepL at h
    obtain ⟨x, zs, rfl, q, h⟩ := h
    exact RepL.cons q (RepL.append h r)
theorem RepL.get : ∀ {ds : List D} {xs : List V} {i : Nat} {d : D}, RepL K H M ds xs → ds[i]? = some d → ∃ x, xs[i]? = some x ∧ Rep K H M d x
  | [], xs, i, d, h, e => by simp at e
  | d :: ds, xs, 0, d', h, e => by
    unfold RepL at h
    obtain ⟨x, zs, rfl, q, h⟩ := h
    simp at e; subst e
    exact ⟨x, rfl, q⟩
  | d :: ds, xs, i + 1, d', h, e => by
    unfold RepL at h
    obtain ⟨x, zs, rfl, q, h⟩ := h
    obtain ⟨y, a, b⟩ := RepL.get (i := i) h (by simpa using e)
    exact ⟨y, by simpa using a, b⟩
theorem RepL.set : ∀ {ds : List D} {xs : List V} {i : Nat} {d : D} {x : V}, RepL K H M ds xs → Rep K H M d x → RepL K H M (ds.set i d) (xs.set i x)
  | [], xs, i, d, x, h, r => by unfold RepL at h; subst h; exact RepL.nil
  | e :: ds, xs, 0, d, x, h, r => by
    unfold RepL at h
    obtain ⟨y, zs, rfl, q, h⟩ := h
    exact RepL.cons r h
  | e :: ds, xs, i + 1, d, x, h, r => by
    unfold RepL at h
    obtain ⟨y, zs, rfl, q, h⟩ := h
    exact RepL.cons q (RepL.set h r)
theorem RepL.take : ∀ {ds : List D} {xs : List V} (n : Nat), RepL K H M ds xs → RepL K H M (ds.take n) (xs.take n)
  | _, _, 0, h => RepL.nil
  | [], xs, n + 1, h => by unfold RepL at h; subst h; exact RepL.nil
  | d :: ds, xs, n + 1, h => by
    unfold RepL at h
    obtain ⟨y, zs, rfl, q, h⟩ := h
    exact RepL.cons q (RepL.take n h)
theorem RepL.drop : ∀ {ds : List D} {xs : List V} (n : Nat), RepL K H M ds xs → RepL K H M (ds.drop n) (xs.drop n)
  | _, _, 0, h => h
  | [], xs, n + 1, h => by unfold RepL at h; subst h; exact RepL.nil
  | d :: ds, xs, n + 1, h => by
    unfold RepL at h
    obtain ⟨y, zs, rfl, q, h⟩ := h
    exact RepL.drop n h
theorem RepL.of_ints : ∀ (ns : List Int), RepL K H M (ns.map D.int) (ns.map V.int)
  | [] => RepL.nil
  | n :: ns => RepL.cons (by unfold Rep; rfl) (RepL.of_ints ns)
end
def truD : D → Option Bool
  | .non => some false
  | .bl b => some b
  | .int i => some (i != 0)
  | .str s => if s.length ≤ 1000000 then some ((s.length : Int) != 0) else none
  | .lst ds => some (!ds.isEmpty)
  | .tup ds => some (!ds.isEmpty)
  | _ => none
mutual
def toPy : D → Option PyData
  | .non => some .none
  | .bl b => some (.bool b)
  | .int i => some (.int i)
  | .str s => some (.str s)
  | .lst ds => (toPys ds).map PyData.list
  | .tup ds => (toPys ds).map PyData.tuple
  | _ => none
def toPys : List D → Option (List PyData)
  | [] => some []
  | d :: ds => match toPy d, toPys ds with
    | some x, some xs => some (x :: xs)
    | _, _ => none
end
theorem truV_of {K : PySem.W.Frag} {H : Hp} {M : AS} {d : D} {v : V} {b : Bool} (r : Rep K H M d v) (t : truD d = some b) : TruV K v H b := by
  have hs : sizeLine = 16777216 := sizeLine_eq
  cases d with
  | non => unfold Rep at r; subst r; cases t; rfl
  | bl c => unfold Rep at r; subst r; cases t; rfl
  | int i => unfold Rep at r; subst r; cases t; rfl
  | str s =>
    unfold Rep at r; subst r
    have t' : (if s.length ≤ 1000000 then some ((s.length : Int) != 0) else none) = some b := t
    by_cases hl : s.length ≤ 1000000
    · rw [if_pos hl] at t'
      cases t'
      exact ⟨by omega, rfl⟩
    · rw [if_neg hl] at t'
      cases t'
  | lst ds =>
    unfold Rep at r
    obtain ⟨a, xs, rfl, q, z⟩ := r
    cases t
    refine .inl ⟨xs, q.l, ?_⟩
    have := z.length
    cases ds <;> cases xs <;> simp_all
  | tup ds =>
    unfold Rep at r
    obtain ⟨a, xs, rfl, _, q, z⟩ := r
    cases t
    refine .inr (.inl ⟨xs, Rd.t q, ?_⟩)
    have := z.length
    cases ds <;> cases xs <;> simp_all
  | obj C ns ds => cases t
  | raw w => cases t
  | dct => cases t
  | dk ks ds => cases t
  | err C f d => cases t
  | fn x => cases t
section
variable {K : PySem.W.Frag} {H : Hp} {M : AS}
mutual
theorem dp_of : ∀ (d : D) (v : V) (p : PyData), Rep K H M d v → toPy d = some p → Dp K H v p
  | .non, v, p, r, t => by unfold Rep at r; unfold toPy at t; subst r; cases t; exact .non
  | .bl b, v, p, r, t => by unfold Rep at r; unfold toPy at t; subst r; cases t; exact .bl b
  | .int i, v, p, r, t => by unfold Rep at r; unfold toPy at t; subst r; cases t; exact .int i
  | .str s, v, p, r, t => by unfold Rep at r; unfold toPy at t; subst r; cases t; exact .str s
  | .lst ds, v, p, r, t => by
    unfold Rep at r; unfold toPy at t
    obtain ⟨a, xs, rfl, q, z⟩ := r
    cases e : toPys ds with
    | none => rw [e] at t; cases t
    | some ps =>
      rw [e] at t; cases t
      exact .lst q.l (dps_of ds xs ps z e)
  | .tup ds, v, p, r, t => by
    unfold Rep at r; unfold toPy at t
    obtain ⟨a, xs, rfl, _, q, z⟩ := r
    cases e : toPys ds with
    | none => rw [e] at t; cases t
    | some ps =>
      rw [e] at t; cases t
      exact .tup (Rd.t q) (dps_of ds xs ps z e)
  | .obj C ns ds, v, p, r, t => by unfold toPy at t; cases t
  | .raw w, v, p, r, t => by unfold toPy at t; cases t
  | .dct, v, p, r, t => by unfold toPy at t; cases t
  | .dk ks ds, v, p, r, t => by unfold toPy at t; cases t
  | .err C f d, v, p, r, t => by unfold toPy at t; cases t
  | .fn x, v, p, r, t => by unfold toPy at t; cases t
theorem dps_of : ∀ (ds : List D) (xs : List V) (ps : List PyData), RepL K H M ds xs → toPys ds = some ps → DpAll K H xs ps
  | [], xs, ps, r, t => by unfold RepL at r; unfold toPys at t; subst r; cases t; exact .nil
  | d :: ds, xs, ps, r, t => by
    unfold RepL at r; unfold toPys at t
    obtain ⟨x, ys, rfl, r, q⟩ := r
    cases e : toPy d with
    | none => rw [e] at t; cases t
    | some p =>
      cases e2 : toPys ds with
      | none => rw [e, e2] at t; cases t
      | some ps' =>
        rw [e, e2] at t; cases t
        exact .cons (dp_of d x p r e) (dps_of ds ys ps' q e2)
end
end
end Mp
set_option maxHeartbeats 2000000
namespace Mp
open PySem L2
inductive Cell where
  | dat (d : D) | own (ds : List D) | io (ds : List D) | slf (C : Str) (ns : List Str) (ds : List D)
abbrev Env := List (Option Cell)
inductive Opd where
  | val (d : D) | pl (i : Nat)
inductive R (α : Type) where
  | ok (a : α) (env : Env) | exc (C : Str) (f : Str) (d : D) (env : Env) | bad
def R.bind {α β : Type} : R α → (α → Env → R β) → R β
  | .ok a env, k => k a env
  | .exc C f d env, _ => .exc C f d env
  | .bad, _ => .bad
inductive FR where
  | ok (d : D) (out : List D) | exc (C : Str) (f : Str) (d : D) (out : List D) | bad
structure Fn where
  n : Nat
  io : Option Nat
  sem : List D → FR
inductive BOp where
  | add | sub | mul | fdiv | mod | pow
inductive COp where
  | eq | ne | lt | le | gt | ge | is_ | isnot | in_ | notin
inductive Ty where
  | int | bool | str | list | tuple | dict | cls (C : Str)
inductive Blt where
  | len | int | max2 | min2 | sorted | list | tuple | all | any | abs | range1 | range2 | maxl | minl | sum | bool | repr | sset | maxd | lset
/-- a clause that tells an error: its class, its field, the word put ahead, whether the repr is told -/
structure HC where
  C : Str
  f : Str
  lab : Str
  rep : Bool
inductive Tgt where
  | name (i : Nat) | tup (is : List Nat)
  | tup2 (i : Nat) (is : List Nat)
mutual
inductive IR where
  | c (d : D)
  | v (i : Nat)
  | bin (op : BOp) (a b : IR)
  | cmp (op : COp) (a b : IR)
  | chn (op1 op2 : COp) (a b c : IR)
  | and_ (a b : IR)
  | or_ (a b : IR)
  | not_ (a : IR)
  | neg (a : IR)
  | ite (t a b : IR)
  | tup (es : List IR)
  | lst (es : List IR)
  | ix (a b : IR)
  | sl (a : IR) (lo hi : Option IR)
  | rev (a : IR)
  | dnv (i : Nat)
  | olen (j : Nat) (a : IR)
  | call (j : Nat) (es : List IR)
  | meth (j : Nat) (o : IR) (es : List IR)
  | make (j : Nat) (es : List IR)
  | blt (b : Blt) (es : List IR)
  | isin (a : IR) (ts : List Ty)
  | fld (o : IR) (f : Str)
  | app (i : Nat) (e : IR)
  | pop (i : Nat) (e : IR)
  | lc (tg : Tgt) (it : IT) (t : Option IR) (e : IR) (own : List Nat)
  | lcf (tg : Tgt) (i : Nat) (t : Option IR) (e : IR) (own : List Nat)
  | lrng (e : IR)
  | ocmp (j : Nat) (a b : IR)
  | heard (cs : List HC) (e : IR)
  | sq (e : IR)
  | lstS (fs : List Bool) (es : List IR)
  | dnew
  | callv (i : Nat) (alts : List (Str × Nat)) (es : List IR)
  | lc2 (tg : Tgt) (it : IT) (tg1 : Tgt) (it1 : IT) (t : Option IR) (e : IR) (own own1 : List Nat)
  | lrng2 (a b : IR)
  | ext (i : Nat) (e : IR)
  | obin (j : Nat) (a b : IR)
  | oeq (neg : Bool) (j : Nat) (a b : IR)
  | thn (i : Nat) (b m : IR)
  | callk (j : Nat) (es ks : List IR)
  | idx (i : Nat) (e : IR)
  | makeL (j : Nat) (es : List IR)
  | heardN (w : Str) (cs : List HC) (e : IR)
  | tlt (a b : IR)
  | dnx (e : IR)
  | callL (j : Nat) (es : List IR)
  | sls (a : IR) (lo : Option Int) (k : Int)
  | rmv (i : Nat) (e : IR)
  | idxo (i : Nat) (e : IR)
  | lc3 (tg : Tgt) (it : IT) (tg1 : Tgt) (it1 : IT) (tg2 : Tgt) (it2 : IT) (e : IR) (own own1 own2 : List Nat)
  | dc (tg : Tgt) (it : IT) (t : Option IR) (k e : IR) (own : List Nat)
  | dlit (ks : List Str) (vs : List Int)
  | ixd (a b : IR)
  | tcat (a b : IR)
  | dne (a b : IR)
  | lkeys (a : IR)
  | tgt (a b : IR)
  | efld (a : IR) (f : Str) (cs : List Str)
  | eis (a : IR) (tab : List (Str × Bool)) (X : Str)
inductive IT where
  | seq (e : IR)
  | rng1 (e : IR)
  | rng2 (a b : IR)
  | rng3 (a b c : IR)
  | txt (e : IR)
  | zip (a b : IR)
  | enum (a : IR)
  | items (a : IR)
  | keys (a : IR)
end
def BIG : Nat := 100000
def addD : D → D → Option D
  | .int i, .int j => some (.int (i + j))
  | .str a, .str b => if a.length + b.length ≤ BIG then some (.str (a ++ b)) else none
  | .lst a, .lst b => if a.length + b.length ≤ BIG then some (.lst (a ++ b)) else none
  | _, _ => none
def subD : D → D → Option D
  | .int i, .int j => some (.int (i - j))
  | _, _ => none
def mulD : D → D → Option D
  | .int i, .int j => if (-18446744073709551616 < i ∧ i < 18446744073709551616) ∨ (-18446744073709551616 < j ∧ j < 18446744073709551616) then some (.int (i * j)) else none
  | .lst ds, .int j => if 0 ≤ j ∧ j ≤ 100 ∧ ds.length ≤ 100 then some (.lst (List.replicate j.toNat ds).flatten) else none
  | _, _ => none
def fdivD : D → D → Option D
  | .int i, .int j => if 0 < j ∧ j < 1073741824 then some (.int (i / j)) else none
  | _, _ => none
def modD : D → D → Option D
  | .int i, .int j => if 0 < j then some (.int (i % j)) else none
  | _, _ => none
def powD : D → D → Option D
  | .int i, .int j => if 0 ≤ j ∧ j ≤ 1000000 ∧ i.natAbs < 18446744073709551616 then some (.int (i ^ j.toNat)) else none
  | _, _ => none
def binD : BOp → D → D → Option D
  | .add => addD | .sub => subD | .mul => mulD | .fdiv => fdivD | .mod => modD | .pow => powD
mutual
/-- == of data, None where it is not of data (or too deep: n levels) -/
def eqD : D → D → Bool
  | .non, .non => true
  | .bl a, .bl b => a == b
  | .bl a, .int j => (if a then 1 else 0) == j
  | .int i, .bl b => i == (if b then 1 else 0)
  | .int i, .int j => i == j
  | .str x, .str y => x == y
  | .lst xs, .lst ys => eqDs xs ys
  | .tup xs, .tup ys => eqDs xs ys
  | _, _ => false
def eqDs : List D → List D → Bool
  | [], [] => true
  | x :: xs, y :: ys => eqD x y && eqDs xs ys
  | _, _ => false
end
mutual
/-- data, at most n deep -/
def dataD : Nat → D → Bool
  | _, .non => true
  | _, .bl _ => true
  | _, .int _ => true
  | _, .str s => s.cps.all (· < 0x110000)
  | 0, _ => false
  | n + 1, .lst ds => dataDs n ds
  | n + 1, .tup ds => dataDs n ds
  | _, _ => false
def dataDs : Nat → List D → Bool
  | _, [] => true
  | n, d :: ds => dataD n d && dataDs n ds
end
def isNon : D → Bool
  | .non => true
  | _ => false
def cmpD : COp → D → D → Option Bool
  | .eq, x, y => if dataD 20 x && dataD 20 y then some (eqD x y) else none
  | .ne, x, y => if dataD 20 x && dataD 20 y then some (!eqD x y) else none
  | .lt, .int i, .int j => some (decide (i < j))
  | .le, .int i, .int j => some (decide (i ≤ j))
  | .gt, .int i, .int j => some (decide (j < i))
  | .ge, .int i, .int j => some (decide (j ≤ i))
  | .is_, .raw _, _ => none
  | .isnot, .raw _, _ => none
  | .is_, x, .non => some (isNon x)
  | .isnot, x, .non => some (!isNon x)
  | .is_, .bl a, .bl b => some (decide (a = b))
  | .isnot, .bl a, .bl b => some (!decide (a = b))
  | .in_, .str i, .str j => some (!(PySem.Builtin.Str.occurrences j i 0 j.length 1).isEmpty)
  | .notin, .str i, .str j => some (!(!(PySem.Builtin.Str.occurrences j i 0 j.length 1).isEmpty))
  | .in_, x, .lst ys => if dataD 19 x && dataDs 19 ys then some (ys.any fun y => eqD y x) else none
  | .in_, x, .tup ys => if dataD 19 x && dataDs 19 ys then some (ys.any fun y => eqD y x) else none
  | .notin, x, .lst ys => if dataD 19 x && dataDs 19 ys then some (!ys.any fun y => eqD y x) else none
  | .notin, x, .tup ys => if dataD 19 x && dataDs 19 ys then some (!ys.any fun y => eqD y x) else none
  | _, _, _ => none
def ixD : D → D → Option D
  | .lst ds, .int i => atI ds i
  | .tup ds, .int i => atI ds i
  | _, _ => none
def cutD (ds : List D) (lo hi : Option Int) : List D := (ds.drop (HT.sIx ds.length 0 lo)).take (HT.sIx ds.length ds.length hi - HT.sIx ds.length 0 lo)
def slD : D → Option Int → Option Int → Option D
  | .lst ds, lo, hi => some (.lst (cutD ds lo hi))
  | .tup ds, lo, hi => some (.tup (cutD ds lo hi))
  | _, _, _ => none
def sortI (ns : List Int) : List Int := ns.mergeSort
def intsD : List D → Option (List Int)
  | [] => some []
  | .int i :: ds => (intsD ds).map (i :: ·)
  | _ :: _ => none
def boolsD : List D → Option (List Bool)
  | [] => some []
  | .bl i :: ds => (boolsD ds).map (i :: ·)
  | _ :: _ => none
def insI (x : Int) : List Int → List Int
  | [] => [x]
  | y :: ys => if x < y then x :: y :: ys else if x = y then y :: ys else y :: insI x ys
/-- the members, rising -/
def ssetI (ns : List Int) : List Int := ns.foldr insI []
def iotaD (lo : Int) : Nat → List D
  | 0 => []
  | n + 1 => .int lo :: iotaD (lo + 1) n
/-- lo, lo + c, .. -/
def stepD (lo c : Int) : Nat → List D
  | 0 => []
  | n + 1 => .int lo :: stepD (lo + c) c n
/-- a text, sign by sign -/
def signsD (s : Str) : List D := s.cps.toList.map fun c => D.str ⟨#[c]⟩
/-- data whose repr is told -/
def showB (p : PyData) : Bool := p.showable && !p.hasDict && (match p with | .int i => decide (i.natAbs.log2 < 1920) | _ => true) && decide (p.shown.length ≤ BIG) && decide (p.depth ≤ 60)
def reprD (d : D) : Option D := match toPy d with
  | some p => if showB p then some (.str p.shown) else none
  | none => none
/-- what the first clause of the error's class tells -/
def hear : List HC → Str → Str → D → Option D
  | [], _, _, _ => none
  | c :: cs, C, f, d => if C = c.C then (if f = c.f then (if c.rep then (reprD d).map fun r => .lst [.str c.lab, r] else some (.lst [.str c.lab, d])) else none) else hear cs C f d
def bltD : Blt → List D → Option D
  | .repr, [d] => reprD d
  | .len, [.lst ds] => some (.int ds.length)
  | .len, [.tup ds] => some (.int ds.length)
  | .len, [.str s] => if s.length ≤ 1000000 then some (.int s.length) else none
  | .int, [.int i] => some (.int i)
  | .int, [.bl b] => some (.int (if b then 1 else 0))
  | .bool, [.int i] => some (.bl (i != 0))
  | .bool, [.bl b] => some (.bl b)
  | .abs, [.int i] => some (.int (if i < 0 then -i else i))
  | .max2, [.int i, .int j] => some (.int (if j > i then j else i))
  | .min2, [.int i, .int j] => some (.int (if j < i then j else i))
  | .sorted, [.lst ds] => (intsD ds).map fun ns => .lst ((sortI ns).map .int)
  | .list, [.lst ds] => some (.lst ds)
  | .list, [.tup ds] => some (.lst ds)
  | .tuple, [.lst ds] => some (.tup ds)
  | .tuple, [.tup ds] => some (.tup ds)
  | .all, [.lst ds] => (boolsD ds).map fun bs => .bl (bs.all id)
  | .any, [.lst ds] => (boolsD ds).map fun bs => .bl (bs.any id)
  | .sset, [.lst ds] => (intsD ds).bind fun ns => if ns.length < 64 then some (.lst ((ssetI ns).map .int)) else none
  | .lset, [.lst ds] => (intsD ds).bind fun ns => if ns.length < 64 then some (.int (ssetI ns).length) else none
  | .lset, [.tup ds] => (intsD ds).bind fun ns => if ns.length < 64 then some (.int (ssetI ns).length) else none
  | .sum, [.lst ds] => (intsD ds).map fun ns => .int ns.sum
  | .maxl, [.lst ds] => (intsD ds).bind fun ns => match ns with
    | [] => none
    | n :: ns => some (.int (ns.foldl max n))
  | .maxd, [.lst ds] => (intsD ds).bind fun ns => match ns with
    | [] => some (.int 0)
    | n :: ns => some (.int (ns.foldl max n))
  | .minl, [.lst ds] => (intsD ds).bind fun ns => match ns with
    | [] => none
    | n :: ns => some (.int (ns.foldl min n))
  | _, _ => none
def tyD : Ty → D → Bool
  | .int, .int _ => true
  | .int, .bl _ => true
  | .bool, .bl _ => true
  | .str, .str _ => true
  | .list, .lst _ => true
  | .tuple, .tup _ => true
  | .cls C, .obj C' _ _ => decide (C = C')
  | .dict, .dct => true
  | _, _ => false
/-- a value whose class is known -/
def knownB (cs : List Str) : D → Bool
  | .obj C _ _ => cs.contains C
  | .raw _ => false
  | .fn _ => false
  | .dk _ _ => false
  | .err _ _ _ => false
  | _ => true
def content : Cell → D
  | .dat d => d
  | .own ds => .lst ds
  | .io ds => .lst ds
  | .slf C ns ds => .obj C ns ds
def cellAt (env : Env) (i : Nat) : Option Cell := (env[i]?).join
/-- what an operand is worth now -/
def rdO (env : Env) : Opd → Option D
  | .val d => some d
  | .pl i => (cellAt env i).map content
/-- an operand is kept by something else: a list of one's own is not changed any more -/
def takeO (env : Env) : Opd → Option (D × Env)
  | .val d => some (d, env)
  | .pl i => match cellAt env i with
    | some (.own ds) => some (.lst ds, env.set i (some (.dat (.lst ds))))
    | some (.dat d) => some (d, env)
    | _ => none
/-- a slot that may be given another value -/
def freeB (env : Env) (i : Nat) : Bool := match env[i]? with
  | some (some (.io _)) => false
  | some (some (.slf _ _ _)) => false
  | some _ => true
  | none => false
def bindT (tg : Tgt) (d : D) (env : Env) : Option Env := match tg with
  | .name i => if freeB env i then some (env.set i (some (.dat d))) else none
  | .tup is => match d with
    | .tup ds => if ds.length = is.length ∧ is.all (freeB env) = true then some ((is.zip ds).foldl (fun e p => e.set p.1 (some (.dat p.2))) env) else none
    | .lst ds => if ds.length = is.length ∧ is.all (freeB env) = true then some ((is.zip ds).foldl (fun e p => e.set p.1 (some (.dat p.2))) env) else none
    | _ => none
  | .tup2 i is => match d with
    | .tup [d1, .tup ds] => if ds.length = is.length ∧ freeB env i = true ∧ is.all (freeB env) = true then some ((is.zip ds).foldl (fun e p => e.set p.1 (some (.dat p.2))) (env.set i (some (.dat d1)))) else none
    | _ => none
/-- the target's slots -/
def tgOwn : Tgt → List Nat
  | .name i => [i]
  | .tup is => is
  | .tup2 i is => i :: is
/-- slots that hold a list of one's own can't be hidden by a comprehension -/
def hideB (env : Env) (i : Nat) : Bool := match env[i]? with
  | some none => true
  | some (some (.dat _)) => true
  | _ => false
def ownB (env : Env) (i : Nat) : Bool := match env[i]? with
  | some (some (.own _)) => true
  | _ => false
def lstB (env : Env) (i : Nat) : Bool := match env[i]? with
  | some (some (.dat (.lst _))) => true
  | _ => false
def wipeE (env : Env) : List Nat → Env
  | [] => env
  | i :: is => (wipeE env is).set i none
/-- behind a comprehension: its slots as they were -/
def backE (old : Env) (env : Env) : List Nat → Env
  | [] => env
  | i :: is => (backE old env is).set i ((old[i]?).join)
def R.take (r : R Opd) : R D := r.bind fun o env => match takeO env o with
  | some (d, env') => .ok d env'
  | none => .bad
def R.rd (r : R Opd) : R D := r.bind fun o env => match rdO env o with
  | some d => .ok d env
  | none => .bad
def lift (env : Env) : Option D → R Opd
  | some d => .ok (.val d) env
  | none => .bad
/-- the items of a list display with stars: a starred one gives its own items -/
def starD : List Bool → List D → Option (List D)
  | [], [] => some []
  | false :: fs, d :: ds => (starD fs ds).map (d :: ·)
  | true :: fs, .lst xs :: ds => (starD fs ds).map (xs ++ ·)
  | true :: fs, .tup xs :: ds => (starD fs ds).map (xs ++ ·)
  | _, _ => none
structure Mt where
  C : Str
  name : Str
  n : Nat
  sem : List D → FR
structure Mkr where
  C : Str
  n : Nat
  ns : List Str
  sem : List D → FR
structure Ctx where
  fns : List Fn
  mts : List Mt
  mks : List Mkr
  cls : List Str
  frs : List Fn
/-- a comprehension's turns -/
def lcLoop (own : List Nat) (tg : Tgt) (t : Option (Env → R Bool)) (e : Env → R D) : List D → Env → R (List D)
  | [], env => .ok [] env
  | d :: ds, env => match bindT tg d (wipeE env own) with
    | none => .bad
    | some env1 => (match t with
        | none => R.ok true env1
        | some t => t env1).bind fun b env2 => if b then (e env2).bind fun x env3 => (lcLoop own tg t e ds env3).bind fun xs env4 => .ok (x :: xs) env4 else lcLoop own tg t e ds env2
/-- the turns of a comprehension of two fors -/
def lc2Loop (own : List Nat) (tg : Tgt) (src : Env → R (List D)) (own1 : List Nat) (tg1 : Tgt) (t : Option (Env → R Bool)) (e : Env → R D) : List D → Env → R (List D)
  | [], env => .ok [] env
  | d :: ds, env => match bindT tg d (wipeE env own) with
    | none => .bad
    | some env1 => (src env1).bind fun ds1 env2 => if ds1.length ≤ 1000 then (lcLoop own1 tg1 t e ds1 env2).bind fun xs env3 => (lc2Loop own tg src own1 tg1 t e ds env3).bind fun ys env4 => .ok (xs ++ ys) env4 else .bad
/-- all turns of a comprehension of three fors -/
def lc3Loop (own : List Nat) (tg : Tgt) (src : Env → R (List D)) (own1 : List Nat) (tg1 : Tgt) (src1 : Env → R (List D)) (own2 : List Nat) (tg2 : Tgt) (e : Env → R D) : List D → Env → R (List D)
  | [], env => .ok [] env
  | d :: ds, env => match bindT tg d (wipeE env own) with
    | none => .bad
    | some env1 => (src env1).bind fun ds1 env2 => if ds1.length ≤ 100 then (lc2Loop own1 tg1 src1 own2 tg2 none e ds1 env2).bind fun xs env3 => (lc3Loop own tg src own1 tg1 src1 own2 tg2 e ds env3).bind fun ys env4 => .ok (xs ++ ys) env4 else .bad
/-- a key -/
def keyD : D → Option Key
  | .int i => some (.inl i)
  | .str s => some (.inr s)
  | _ => none
def kD : Key → D
  | .inl i => .int i
  | .inr s => .str s
/-- all turns of a comprehension that makes a dict -/
def dcLoop (own : List Nat) (tg : Tgt) (t : Option (Env → R Bool)) (k e : Env → R D) : List D → Env → R (List (Key × D))
  | [], env => .ok [] env
  | d :: ds, env => match bindT tg d (wipeE env own) with
    | none => .bad
    | some env1 => (match t with
      | none => R.ok true env1
      | some t => t env1).bind fun b env2 => if b then (k env2).bind fun kd env3 => match keyD kd with
        | none => .bad
        | some kk => (e env3).bind fun x env4 => (dcLoop own tg t k e ds env4).bind fun ps env5 => if ps.all (fun p => decide (p.1 ≠ kk)) then .ok ((kk, x) :: ps) env5 else .bad
      else dcLoop own tg t k e ds env2
/-- what stands at a key -/
def getK (ks : List Key) (ds : List D) (k : Key) : Option D := ((ks.zip ds).find? fun p => decide (p.1 = k)).map (·.2)
mutual
/-- no list in it -/
def nolD : D → Bool
  | .lst _ => false
  | .tup ds => nolDs ds
  | .obj _ _ ds => nolDs ds
  | .raw _ => false
  | .fn _ => false
  | .dct => false
  | .dk _ _ => false
  | .err _ _ _ => false
  | _ => true
def nolDs : List D → Bool
  | [] => true
  | d :: ds => nolD d && nolDs ds
end
/-- the first place of i -/
def firstI (i : Int) : List Int → Option Nat
  | [] => none
  | j :: js => if j = i then some 0 else (firstI i js).map (· + 1)
/-- x[lo::k] -/
def pickL {α : Type} (xs : List α) (lo : Option Int) (k : Int) : List α :=
  (sliceRange (sliceBounds lo none (some k) xs.length).1 (sliceBounds lo none (some k) xs.length).2.1 (sliceBounds lo none (some k) xs.length).2.2).filterMap (xs[·]?)
/-- what a lambda sees: data alone -/
def datE (env : Env) : Env := env.map fun c => match c with
  | some (.dat d) => some (.dat d)
  | _ => none
def truR (r : R Opd) : R Bool := r.bind fun o env => match (rdO env o).bind truD with
  | some b => .ok b env
  | none => .bad
def zipD : List D → List D → List D
  | x :: xs, y :: ys => .tup [x, y] :: zipD xs ys
  | _, _ => []
def enumD (k : Int) : List D → List D
  | [] => []
  | x :: xs => .tup [.int k, x] :: enumD (k + 1) xs
def seqD : D → Option (List D)
  | .lst ds => some ds
  | .tup ds => some ds
  | _ => none
def lstD : D → Option (List D)
  | .lst ds => some ds
  | _ => none
def noExc {α : Type} : R α → R α
  | .exc _ _ _ _ => .bad
  | r => r
def frR (env : Env) (io : Option Nat) (ops : List Nat) : FR → R Opd
  | .ok d out => match io with
    | none => .ok (.val d) env
    | some _ => match ops with
      | [i] => (match cellAt env i with
        | some (.own _) => .ok (.val d) (env.set i (some (.own out)))
        | some (.io _) => .ok (.val d) (env.set i (some (.io out)))
        | _ => .bad)
      | _ => .bad
  | .exc C f d out => match io with
    | none => .exc C f d env
    | some _ => match ops with
      | [i] => (match cellAt env i with
        | some (.own _) => .exc C f d (env.set i (some (.own out)))
        | some (.io _) => .exc C f d (env.set i (some (.io out)))
        | _ => .bad)
      | _ => .bad
  | .bad => .bad
mutual
def ev (G : Ctx) : IR → Env → R Opd
  | .c d, env => .ok (.val d) env
  | .v i, env => match cellAt env i with
    | some (.dat d) => .ok (.val d) env
    | some (.own _) => .ok (.pl i) env
    | some (.io _) => .ok (.pl i) env
    | _ => .bad
  | .bin op a b, env => (ev G a env).bind fun x e1 => (ev G b e1).bind fun y e2 => match rdO e2 x, rdO e2 y with
    | some p, some q => lift e2 (binD op p q)
    | _, _ => .bad
  | .cmp op a b, env => (ev G a env).bind fun x e1 => (ev G b e1).bind fun y e2 => match rdO e2 x, rdO e2 y with
    | some p, some q => lift e2 ((cmpD op p q).map .bl)
    | _, _ => .bad
  | .chn op1 op2 a b c, env => (ev G a env).bind fun x e1 => (ev G b e1).bind fun y e2 => match rdO e2 x, rdO e2 y with
    | some p, some q => (match cmpD op1 p q with
      | some true => (ev G c e2).bind fun z e3 => (match rdO e3 y, rdO e3 z with
        | some p, some q => lift e3 ((cmpD op2 p q).map .bl)
        | _, _ => .bad)
      | some false => .ok (.val (.bl false)) e2
      | none => .bad)
    | _, _ => .bad
  | .and_ a b, env => (ev G a env).bind fun x e1 => match (rdO e1 x).bind truD with
    | some true => ev G b e1
    | some false => .ok x e1
    | none => .bad
  | .or_ a b, env => (ev G a env).bind fun x e1 => match (rdO e1 x).bind truD with
    | some true => .ok x e1
    | some false => ev G b e1
    | none => .bad
  | .not_ a, env => (ev G a env).bind fun x e1 => match (rdO e1 x).bind truD with
    | some b => .ok (.val (.bl (!b))) e1
    | none => .bad
  | .neg a, env => (ev G a env).bind fun x e1 => match x with
    | .val (.int i) => .ok (.val (.int (-i))) e1
    | _ => .bad
  | .ite t a b, env => (truR (ev G t env)).bind fun c e1 => if c then ev G a e1 else ev G b e1
  | .tup es, env => (evs G es env).bind fun ds e1 => if ds.length ≤ BIG then .ok (.val (.tup ds)) e1 else .bad
  | .lst es, env => (evs G es env).bind fun ds e1 => if ds.length ≤ BIG then .ok (.val (.lst ds)) e1 else .bad
  | .ix a b, env => (ev G a env).bind fun x e1 => (ev G b e1).bind fun y e2 => match rdO e2 x, rdO e2 y with
    | some p, some q => lift e2 (ixD p q)
    | _, _ => .bad
  | .sl a lo hi, env => (ev G a env).bind fun x e1 => (evo G lo e1).bind fun i e2 => (evo G hi e2).bind fun j e3 => match rdO e3 x with
    | some p => lift e3 (slD p i j)
    | none => .bad
  | .rev a, env => (ev G a env).bind fun x e1 => match rdO e1 x with
    | some (.lst ds) => .ok (.val (.lst ds.reverse)) e1
    | _ => .bad
  | .call j es, env => match G.fns[j]? with
    | none => .bad
    | some f => if es.length = f.n then (eva G f.io 0 es env).bind fun p e1 => (match (p.1.mapM (rdO e1)) with
      | some ds => frR e1 f.io p.2 (f.sem ds)
      | none => .bad) else .bad
  | .meth j o es, env => match G.mts[j]? with
    | none => .bad
    | some m => (ev G o env).bind fun x e1 => match x with
      | .val (.obj C ns ds) => if C = m.C ∧ es.length + 1 = m.n ∧ ns.contains m.name = false then (evs G es e1).bind fun vs e2 => frR e2 none [] (m.sem (.obj C ns ds :: vs)) else .bad
      | _ => .bad
  | .make j es, env => match G.mks[j]? with
    | none => .bad
    | some m => if es.length = m.n then (evs G es env).bind fun vs e1 => (match m.sem vs with
      | .ok _ out => .ok (.val (.obj m.C m.ns out)) e1
      | .exc C f d _ => .exc C f d e1
      | .bad => .bad) else .bad
  | .blt b es, env => (evr G es env).bind fun os e1 => match os.mapM (rdO e1) with
    | some ds => lift e1 (bltD b ds)
    | none => .bad
  | .isin a ts, env => (ev G a env).bind fun x e1 => match rdO e1 x with
    | some d => if knownB G.cls d then .ok (.val (.bl (ts.any fun t => tyD t d))) e1 else .bad
    | none => .bad
  | .fld o f, env => (ev G o env).bind fun x e1 => match rdO e1 x with
    | some (.obj C ns ds) => if G.cls.contains C then lift e1 ((ns.zip ds).lookup f) else .bad
    | _ => .bad
  | .app i e, env => if ownB env i then (ev G e env).take.bind fun d e1 => match e1[i]? with
    | some (some (.own ds)) => if ds.length < BIG then .ok (.val .non) (e1.set i (some (.own (ds ++ [d])))) else .bad
    | _ => .bad
    else .bad
  | .pop i e, env => if ownB env i then (ev G e env).rd.bind fun d e1 => match e1[i]?, d with
    | some (some (.own ds)), .int k => if 0 ≤ k ∧ k < ds.length ∧ k < 1000000 then (match ds[k.toNat]? with
        | some x => .ok (.val x) (e1.set i (some (.own (ds.eraseIdx k.toNat))))
        | none => .bad) else .bad
    | _, _ => .bad
    else .bad
  | .lc tg it t e own, env => (noExc (evi G it env)).bind fun ds e1 => if ds.length ≤ BIG ∧ own.all (hideB e1) = true ∧ (tgOwn tg).all (fun i => own.contains i) = true then
        (noExc (lcLoop own tg (match t with
          | none => none
          | some t => some fun x => truR (ev G t x)) (fun x => (ev G e x).take) ds e1)).bind fun xs e2 => .ok (.val (.lst xs)) (backE e1 e2 own) else .bad
  | .lcf tg i t e own, env => match env[i]? with
    | some (some (.own ds)) => if ds.length ≤ BIG ∧ own.all (hideB (env.set i none)) = true ∧ (tgOwn tg).all (fun i => own.contains i) = true then
        (noExc (lcLoop own tg (match t with
          | none => none
          | some t => some fun x => truR (ev G t x)) (fun x => (ev G e x).take) ds (env.set i none))).bind fun xs e2 => (match (backE (env.set i none) e2 own)[i]? with
            | some none => .ok (.val (.lst xs)) ((backE (env.set i none) e2 own).set i (some (.own ds)))
            | _ => .bad) else .bad
    | _ => .bad
  | .lrng e, env => (ev G e env).rd.bind fun d e1 => match d with
    | .int j => if -1000000 ≤ j ∧ j ≤ BIG then .ok (.val (.lst (iotaD 0 j.toNat))) e1 else .bad
    | _ => .bad
  | .ocmp j a b, env => (ev G a env).bind fun x e1 => (ev G b e1).bind fun y e2 => match G.mts[j]?, x, y with
    | some m, .val (.obj C ns ds), .val (.obj C' ns' ds') => if C = m.C ∧ C' = m.C ∧ m.n = 2 then (match m.sem [.obj C ns ds, .obj C' ns' ds'] with
      | .ok (.bl k) _ => .ok (.val (.bl k)) e2
      | _ => .bad) else .bad
    | _, _, _ => .bad
  | .heard cs e, env => match ev G e env with
    | .ok _ e1 => .ok (.val .non) e1
    | .exc C f d e1 => lift e1 (hear cs C f d)
    | .bad => .bad
  | .sq e, env => (ev G e env).bind fun o e1 => match rdO e1 o with
    | some (.lst _) => .ok o e1
    | some (.tup _) => .ok o e1
    | _ => .bad
  | .lstS fs es, env => (evs G es env).bind fun ds e1 => match starD fs ds with
    | some xs => if xs.length ≤ BIG then .ok (.val (.lst xs)) e1 else .bad
    | none => .bad
  | .dnew, env => .ok (.val .dct) env
  | .dnv i, env => match env[i]? with
    | some (some (.dat _)) => .ok (.val .dct) env
    | _ => .bad
  | .olen j a, env => (ev G a env).bind fun x e1 => match G.mts[j]?, x with
    | some m, .val (.obj C ns ds) => if C = m.C ∧ m.n = 1 then (match m.sem [.obj C ns ds] with
      | .ok (.int k) _ => if 0 ≤ k ∧ k ≤ 1000000 then .ok (.val (.int k)) e1 else .bad
      | _ => .bad) else .bad
    | _, _ => .bad
  | .callv i alts es, env => match env[i]? with
    | some (some (.dat (.fn x))) => (match alts.lookup x with
      | none => .bad
      | some j => (match G.fns[j]? with
        | none => .bad
        | some f => if es.length = f.n ∧ f.io = none then (eva G none 0 es env).bind fun p e1 => (match (p.1.mapM (rdO e1)) with
          | some ds => frR e1 none p.2 (f.sem ds)
          | none => .bad) else .bad))
    | _ => .bad
  | .lc2 tg it tg1 it1 t e own own1, env => (noExc (evi G it env)).bind fun ds e1 => if ds.length ≤ 1000 ∧ own.all (hideB e1) = true ∧ (tgOwn tg).all (fun i => own.contains i) = true ∧ (tgOwn tg1).all (fun i => own1.contains i) = true ∧ own1.all (fun i => own.contains i) = true then
        (noExc (lc2Loop own tg (fun x => evi G it1 x) own1 tg1 (match t with
          | none => none
          | some t => some fun x => truR (ev G t x)) (fun x => (ev G e x).take) ds e1)).bind fun xs e2 => .ok (.val (.lst xs)) (backE e1 e2 own) else .bad
  | .lrng2 a b, env => (ev G a env).rd.bind fun d e1 => (ev G b e1).rd.bind fun c e2 => match d, c with
    | .int i, .int j => if -1000000 ≤ i ∧ i ≤ 1000000 ∧ -1000000 ≤ j ∧ j ≤ 1000000 ∧ j - i ≤ BIG then .ok (.val (.lst (iotaD i (j - i).toNat))) e2 else .bad
    | _, _ => .bad
  | .ext i e, env => if ownB env i then (ev G e env).take.bind fun d e1 => match e1[i]?, d with
    | some (some (.own ds)), .lst xs => if ds.length + xs.length ≤ BIG then .ok (.val .non) (e1.set i (some (.own (ds ++ xs)))) else .bad
    | _, _ => .bad
    else .bad
  | .obin j a b, env => (ev G a env).bind fun x e1 => (ev G b e1).bind fun y e2 => match G.mts[j]?, x, y with
    | some m, .val (.obj C ns ds), .val (.obj C' ns' ds') => if C = m.C ∧ C' = m.C ∧ m.n = 2 then (match m.sem [.obj C ns ds, .obj C' ns' ds'] with
      | .ok d _ => .ok (.val d) e2
      | _ => .bad) else .bad
    | _, _, _ => .bad
  | .oeq neg j a b, env => (ev G a env).bind fun x e1 => (ev G b e1).bind fun y e2 => match G.mts[j]?, x, y with
    | some m, .val (.obj C ns ds), .val d => if C = m.C ∧ m.n = 2 ∧ (match d with
        | .obj C' _ _ => decide (C' = m.C)
        | .raw _ => false
        | .fn _ => false
        | .dk _ _ => false
        | .err _ _ _ => false
        | _ => true) = true then (match m.sem [.obj C ns ds, d] with
      | .ok (.bl k) _ => .ok (.val (.bl (neg ^^ k))) e2
      | _ => .bad) else .bad
    | _, _, _ => .bad
  | .thn i b m, env => (ev G m env).rd.bind fun d e1 => match d with
    | .non => .ok (.val .non) e1
    | .int n => if i < e1.length then (match ev G b ((datE e1).set i (some (.dat (.int n)))) with
      | .ok (.val x) _ => .ok (.val x) e1
      | _ => .bad) else .bad
    | _ => .bad
  | .callk j es ks, env => match G.fns[j]? with
    | none => .bad
    | some f => if es.length + ks.length = f.n ∧ f.io = none then (evs G es env).bind fun ds e1 => (evs G ks e1).bind fun zs e2 => frR e2 none [] (f.sem (ds ++ zs)) else .bad
  | .idx i e, env => if lstB env i then (ev G e env).rd.bind fun d e1 => match e1[i]?, d with
    | some (some (.dat (.lst ds))), .int v => (match intsD ds with
      | some ns => (match firstI v ns with
        | some j => if j < 1000000 then .ok (.val (.int j)) e1 else .bad
        | none => .bad)
      | none => .bad)
    | _, _ => .bad
    else .bad
  | .makeL j es, env => match G.mks[j]? with
    | none => .bad
    | some m => if es.length = m.n then (evr G es env).bind fun os e1 => (match os.mapM (rdO e1) with
      | none => .bad
      | some ds => (match m.sem ds with
        | .ok _ out => if nolDs out then .ok (.val (.obj m.C m.ns out)) e1 else .bad
        | .exc C f d _ => if nolD d then .exc C f d e1 else .bad
        | .bad => .bad)) else .bad
  | .sls a lo k, env => (ev G a env).bind fun x e1 => match rdO e1 x with
    | some (.lst ds) => if k ≠ 0 then .ok (.val (.lst (pickL ds lo k))) e1 else .bad
    | _ => .bad
  | .rmv i e, env => if ownB env i then (ev G e env).rd.bind fun d e1 => match e1[i]?, d with
    | some (some (.own ds)), .int v => (match intsD ds with
      | some ns => (match firstI v ns with
        | some j => .ok (.val .non) (e1.set i (some (.own (ds.eraseIdx j))))
        | none => .bad)
      | none => .bad)
    | _, _ => .bad
    else .bad
  | .idxo i e, env => if ownB env i then (ev G e env).rd.bind fun d e1 => match e1[i]?, d with
    | some (some (.own ds)), .int v => (match intsD ds with
      | some ns => (match firstI v ns with
        | some j => if j < 1000000 then .ok (.val (.int j)) e1 else .bad
        | none => .bad)
      | none => .bad)
    | _, _ => .bad
    else .bad
  | .heardN w cs e, env => match ev G e env with
    | .ok _ e1 => .ok (.val (.lst [.str w])) e1
    | .exc C f d e1 => lift e1 (hear cs C f d)
    | .bad => .bad
  | .tlt a b, env => (ev G a env).bind fun x e1 => (ev G b e1).bind fun y e2 => match x, y with
    | .val (.tup [.int i, .int j]), .val (.tup [.int k, .int l]) => .ok (.val (.bl (decide (i < k ∨ (i = k ∧ j < l))))) e2
    | _, _ => .bad
  | .dnx e, env => (ev G e env).bind fun _ e1 => .ok (.val .dct) e1
  | .callL j es, env => match G.fns[j]? with
    | none => .bad
    | some f => if es.length = f.n ∧ f.io = none then (evr G es env).bind fun os e1 => (match os.mapM (rdO e1) with
      | none => .bad
      | some ds => (match f.sem ds with
        | .ok d _ => if nolD d then .ok (.val d) e1 else .bad
        | .exc C x d _ => if nolD d then .exc C x d e1 else .bad
        | .bad => .bad)) else .bad
  | .lc3 tg it tg1 it1 tg2 it2 e own own1 own2, env => (noExc (evi G it env)).bind fun ds e1 => if ds.length ≤ 100 ∧ own.all (hideB e1) = true ∧ (tgOwn tg).all (fun i => own.contains i) = true ∧ (tgOwn tg1).all (fun i => own1.contains i) = true ∧ own1.all (fun i => own.contains i) = true ∧ (tgOwn tg2).all (fun i => own2.contains i) = true ∧ own2.all (fun i => own1.contains i) = true then
        (noExc (lc3Loop own tg (fun x => evi G it1 x) own1 tg1 (fun x => evi G it2 x) own2 tg2 (fun x => (ev G e x).take) ds e1)).bind fun xs e2 => .ok (.val (.lst xs)) (backE e1 e2 own) else .bad
  | .dc tg it t k e own, env => (noExc (evi G it env)).bind fun ds e1 => if ds.length ≤ BIG ∧ own.all (hideB e1) = true ∧ (tgOwn tg).all (fun i => own.contains i) = true then
        (noExc (dcLoop own tg (match t with
          | none => none
          | some t => some fun x => truR (ev G t x)) (fun x => (ev G k x).take) (fun x => (ev G e x).take) ds e1)).bind fun ps e2 => .ok (.val (.dk (ps.map (·.1)) (ps.map (·.2)))) (backE e1 e2 own) else .bad
  | .dlit ks vs, env => if ks.length = vs.length ∧ ks.Nodup ∧ ks ≠ [] ∧ ks.length ≤ 15 then .ok (.val (.dk (ks.map .inr) (vs.map .int))) env else .bad
  | .ixd a b, env => (ev G a env).take.bind fun d e1 => (ev G b e1).take.bind fun c e2 => match d, keyD c with
    | .dk ks ds, some k => (match getK ks ds k with
      | some x => .ok (.val x) e2
      | none => .bad)
    | _, _ => .bad
  | .tcat a b, env => (ev G a env).take.bind fun d e1 => (ev G b e1).take.bind fun c e2 => match d, c with
    | .tup (x :: xs), .tup (y :: ys) => if xs.length + ys.length ≤ 1000 then .ok (.val (.tup ((x :: xs) ++ (y :: ys)))) e2 else .bad
    | _, _ => .bad
  | .dne a b, env => (ev G a env).take.bind fun d e1 => (ev G b e1).take.bind fun c e2 => match d, c with
    | .dk ks ds, .dk ls es => if ks = ls ∧ ks.Nodup ∧ dataDs 19 ds = true ∧ dataDs 19 es = true ∧ eqDs ds es = true then .ok (.val (.bl false)) e2 else .bad
    | _, _ => .bad
  | .tgt a b, env => (ev G a env).bind fun x e1 => (ev G b e1).bind fun y e2 => match x, y with
    | .val (.tup [.int i, .int j]), .val (.tup [.int k, .int l]) => .ok (.val (.bl (decide (k < i ∨ (i = k ∧ l < j))))) e2
    | _, _ => .bad
  | .efld a f cs, env => (ev G a env).take.bind fun d e1 => match d with
    | .err C g x => if g = f ∧ cs.contains C = true then .ok (.val x) e1 else .bad
    | _ => .bad
  | .eis a tab _, env => (ev G a env).take.bind fun d e1 => match d with
    | .err C _ _ => (match tab.lookup C with
      | some b => .ok (.val (.bl b)) e1
      | none => .bad)
    | _ => .bad
  | .lkeys a, env => (ev G a env).take.bind fun d e1 => match d with
    | .dk ks ds => if ks.length ≤ BIG then .ok (.val (.lst (ks.map kD))) e1 else .bad
    | _ => .bad
/-- items that are kept -/
def evs (G : Ctx) : List IR → Env → R (List D)
  | [], env => .ok [] env
  | e :: es, env => (ev G e env).take.bind fun d e1 => (evs G es e1).bind fun ds e2 => .ok (d :: ds) e2
/-- items that are looked at alone -/
def evr (G : Ctx) : List IR → Env → R (List Opd)
  | [], env => .ok [] env
  | e :: es, env => (ev G e env).bind fun d e1 => (evr G es e1).bind fun ds e2 => .ok (d :: ds) e2
/-- arguments; the one at io is handed over to be changed: its slot -/
def eva (G : Ctx) (io : Option Nat) : Nat → List IR → Env → R (List Opd × List Nat)
  | _, [], env => .ok ([], []) env
  | n, e :: es, env => if io = some n then (ev G e env).bind fun x e1 => (match x with
        | .pl i => (eva G io (n + 1) es e1).bind fun p e2 => .ok (.pl i :: p.1, i :: p.2) e2
        | _ => .bad)
      else (ev G e env).take.bind fun d e1 => (eva G io (n + 1) es e1).bind fun p e2 => .ok (.val d :: p.1, p.2) e2
def evo (G : Ctx) : Option IR → Env → R (Option Int)
  | none, env => .ok none env
  | some e, env => (ev G e env).rd.bind fun d e1 => match d with
    | .int i => .ok (some i) e1
    | _ => .bad
/-- what is walked -/
def evi (G : Ctx) : IT → Env → R (List D)
  | .seq e, env => (ev G e env).take.bind fun d e1 => match seqD d with
    | some ds => .ok ds e1
    | none => .bad
  | .rng1 e, env => (ev G e env).rd.bind fun d e1 => match d with
    | .int j => if -1000000 ≤ j ∧ j ≤ 1000000 then .ok (iotaD 0 j.toNat) e1 else .bad
    | _ => .bad
  | .rng2 a b, env => (ev G a env).rd.bind fun d e1 => (ev G b e1).rd.bind fun c e2 => match d, c with
    | .int i, .int j => if -1000000 ≤ i ∧ i ≤ 1000000 ∧ -1000000 ≤ j ∧ j ≤ 1000000 then .ok (iotaD i (j - i).toNat) e2 else .bad
    | _, _ => .bad
  | .rng3 a b c, env => (ev G a env).rd.bind fun d e1 => (ev G b e1).rd.bind fun d2 e2 => (ev G c e2).rd.bind fun d3 e3 => match d, d2, d3 with
    | .int i, .int j, .int k => if -1000000 ≤ i ∧ i ≤ 1000000 ∧ -1000000 ≤ j ∧ j ≤ 1000000 ∧ 0 < k ∧ k ≤ 1000000 then .ok (stepD i k (if i < j then (j - i - 1) / k + 1 else 0).toNat) e3 else .bad
    | _, _, _ => .bad
  | .txt e, env => (ev G e env).rd.bind fun d e1 => match d with
    | .str s => if s.length ≤ 1000 then .ok (signsD s) e1 else .bad
    | _ => .bad
  | .zip a b, env => (ev G a env).take.bind fun d e1 => (ev G b e1).take.bind fun c e2 => match lstD d, seqD c with
    | some xs, some ys => .ok (zipD xs ys) e2
    | _, _ => .bad
  | .enum a, env => (ev G a env).take.bind fun d e1 => match seqD d with
    | some xs => .ok (enumD 0 xs) e1
    | none => .bad
  | .items a, env => (ev G a env).take.bind fun d e1 => match d with
    | .dk ks ds => .ok ((ks.zip ds).map fun p => .tup [kD p.1, p.2]) e1
    | _ => .bad
  | .keys a, env => (ev G a env).take.bind fun d e1 => match d with
    | .dk ks ds => .ok (ks.map kD) e1
    | _ => .bad
end
end Mp
set_option maxHeartbeats 2000000
namespace Mp
open PySem L2
variable [TabsW]
def MutAt (env : Env) (σ : L2.St) (a : Addr) : Prop := ∃ (i : Nat) (ds : List D), env[i]? = some (some (Cell.own ds)) ∧ σ[i]? = some (some (V.ref a))
/-- what may be changed here -/
def WW (A : AS) (env : Env) (σ : L2.St) : AS := fun a => A a ∨ MutAt env σ a
def MM (M0 : AS) (env : Env) (σ : L2.St) : AS := fun a => M0 a ∨ MutAt env σ a
/-- what is set apart is there, and the tables tell what they should -/
structure MOk (M : AS) (H : Hp) : Prop where
  al : ∀ a, M a → Lv H a
  tb : ∀ P q, (P, q) ∈ TabsW.T → LamX.TabS H P q
structure EnvR (K : PySem.W.Frag) (H0 : Hp) (M0 A : AS) (env : Env) (σ : L2.St) (H : Hp) : Prop where
  len : env.length = σ.length
  old : ∀ a o, H0 a = some o → ¬ A a → NT o → H a = some o
  alive : ∀ a, Lv H0 a → Lv H a
  tb : ∀ P q, (P, q) ∈ TabsW.T → LamX.TabS H P q
  m0 : ∀ a, M0 a → Lv H a
  aM : ∀ a, A a → M0 a
  a1 : ∀ a b, A a → A b → a = b
  dat : ∀ (i : Nat) (d : D), env[i]? = some (some (Cell.dat d)) → ∃ v, σ[i]? = some (some v) ∧ Rep K H (MM M0 env σ) d v
  own : ∀ (i : Nat) (ds : List D), env[i]? = some (some (Cell.own ds)) → ∃ a xs, σ[i]? = some (some (V.ref a)) ∧ H a = some (.lst xs) ∧ RepL K H (MM M0 env σ) ds xs ∧ ¬ M0 a ∧ ¬ Lv H0 a
  io : ∀ (i : Nat) (ds : List D), env[i]? = some (some (Cell.io ds)) → ∃ a xs, σ[i]? = some (some (V.ref a)) ∧ A a ∧ H a = some (.lst xs) ∧ RepL K H (MM M0 env σ) ds xs
  inj : ∀ (i j : Nat) (a : Addr) (ds es : List D), env[i]? = some (some (Cell.own ds)) → env[j]? = some (some (Cell.own es)) → σ[i]? = some (some (V.ref a)) → σ[j]? = some (some (V.ref a)) → i = j
  io1 : ∀ (i j : Nat) (ds es : List D), env[i]? = some (some (Cell.io ds)) → env[j]? = some (some (Cell.io es)) → i = j
  slf : ∀ (i : Nat) (C : Str) (ns : List Str) (ds : List D), env[i]? = some (some (Cell.slf C ns ds)) → False
def OpdR (K : PySem.W.Frag) (M0 : AS) (env : Env) (σ : L2.St) (H : Hp) : Opd → V → Prop
  | .val d, v => Rep K H (MM M0 env σ) d v
  | .pl i, v => σ[i]? = some (some v) ∧ ∃ c, env[i]? = some (some c)
/-- nothing new is ours, no slot is lost -/
structure Sub (σ : L2.St) (env env' : Env) : Prop where
  own : ∀ a, MutAt env' σ a → MutAt env σ a
  there : ∀ (i : Nat) (c : Cell), env[i]? = some (some c) → ∃ c', env'[i]? = some (some c')
  io : ∀ (i : Nat) (ds : List D), env'[i]? = some (some (Cell.io ds)) → ∃ es, env[i]? = some (some (Cell.io es))
  len : env'.length = env.length
theorem Sub.refl {σ : L2.St} {env : Env} : Sub σ env env := ⟨fun _ z => z, fun _ c h => ⟨c, h⟩, fun _ ds h => ⟨ds, h⟩, rfl⟩
theorem Sub.trans {σ : L2.St} {env e1 e2 : Env} (a : Sub σ env e1) (b : Sub σ e1 e2) : Sub σ env e2 :=
  ⟨fun x z => a.own x (b.own x z), fun i c h => let ⟨c1, h1⟩ := a.there i c h; b.there i c1 h1, fun i ds h => let ⟨es, h1⟩ := b.io i ds h; a.io i es h1, b.len.trans a.len⟩
section
variable {K : PySem.W.Frag} {H0 H H' : Hp} {M0 A : AS} {env env' : Env} {σ : L2.St}
theorem EnvR.freshL (E : EnvR K H0 M0 A env σ H) {p : Addr} (h : ¬ Lv H p) : ¬ MM M0 env σ p ∧ ¬ Lv H0 p := by
  refine ⟨fun z => ?_, fun z => h (E.alive p z)⟩
  rcases z with z | ⟨i, ds, e1, e2⟩
  · exact h (E.m0 p z)
  · obtain ⟨a, xs, s, q, _⟩ := E.own i ds e1
    rw [e2] at s; cases s
    exact h (Lv.lst q)
theorem EnvR.fresh (E : EnvR K H0 M0 A env σ H) {p : Addr} (h : H p = none) : ¬ MM M0 env σ p ∧ ¬ Lv H0 p := E.freshL (nn_of h)
theorem EnvR.mok (E : EnvR K H0 M0 A env σ H) : MOk (MM M0 env σ) H := ⟨fun a ha => Classical.byContradiction fun q => (E.freshL q).1 ha, E.tb⟩
theorem WW.sub (hA : ∀ a, A a → M0 a) : ∀ a, WW A env σ a → MM M0 env σ a := fun a z => z.elim (fun q => .inl (hA a q)) .inr
/-- a step that changes no list of ours -/
theorem EnvR.keep (E : EnvR K H0 M0 A env σ H) (s : Stp (fun _ => False) H H') : EnvR K H0 M0 A env σ H' := by
  have st : Stp (MM M0 env σ) H H' := s.weak fun _ z => z.elim
  refine ⟨E.len, fun a o h n t => s.st a o (E.old a o h n t) id t, fun a h => s.mo a (E.alive a h), fun P q h => s.tb P q h (E.tb P q h), fun a h => s.mo a (E.m0 a h), E.aM, E.a1, fun i d h => ?_, fun i ds h => ?_, fun i ds h => ?_, E.inj, E.io1, E.slf⟩
  · obtain ⟨v, a, b⟩ := E.dat i d h
    exact ⟨v, a, Rep.stp st (fun _ z => z) d v b⟩
  · obtain ⟨a, xs, b, c, d, e⟩ := E.own i ds h
    exact ⟨a, xs, b, s.st a _ c id nt_lst, RepL.stp st (fun _ z => z) ds xs d, e⟩
  · obtain ⟨a, xs, b, c, d, e⟩ := E.io i ds h
    exact ⟨a, xs, b, c, s.st a _ d id nt_lst, RepL.stp st (fun _ z => z) ds xs e⟩
theorem EnvR.new (E : EnvR K H0 M0 A env σ H) {p : Addr} {o : HO} (h : H p = none) : EnvR K H0 M0 A env σ (upd H p o) := E.keep (Stp.new h)
/-- what an operand is worth, read -/
theorem OpdR.rd (E : EnvR K H0 M0 A env σ H) {o : Opd} {v : V} {d : D} (r : OpdR K M0 env σ H o v) (e : rdO env o = some d) : Rep K H (fun _ => False) d v := by
  cases o with
  | val d' =>
    cases e
    exact Rep.stp Stp.refl (fun _ z => z.elim) d v r
  | pl i =>
    obtain ⟨h, c, hc⟩ := r
    have e' : (cellAt env i).map content = some d := e
    unfold cellAt at e'
    rw [hc] at e'
    cases c with
    | dat d' =>
      obtain ⟨v', s, l⟩ := E.dat i d' hc
      rw [h] at s; cases s
      cases e'
      exact Rep.stp Stp.refl (fun _ z => z.elim) d' v l
    | slf C ns ds => exact absurd hc (fun q => E.slf i C ns ds q)
    | own ds =>
      obtain ⟨a, xs, s, q, l, _⟩ := E.own i ds hc
      rw [h] at s; cases s
      cases e'
      unfold content Rep
      exact ⟨a, xs, rfl, .inl ⟨id, Rd.of q⟩, RepL.stp Stp.refl (fun _ z => z.elim) ds xs l⟩
    | io ds =>
      obtain ⟨a, xs, s, _, q, l⟩ := E.io i ds hc
      rw [h] at s; cases s
      cases e'
      unfold content Rep
      exact ⟨a, xs, rfl, .inl ⟨id, Rd.of q⟩, RepL.stp Stp.refl (fun _ z => z.elim) ds xs l⟩
/-- kept: the list is ours no more -/
theorem EnvR.take (E : EnvR K H0 M0 A env σ H) {o : Opd} {v : V} {d : D} (r : OpdR K M0 env σ H o v) (e : takeO env o = some (d, env')) :
    EnvR K H0 M0 A env' σ H ∧ Rep K H (MM M0 env' σ) d v ∧ Sub σ env env' := by
  cases o with
  | val d' =>
    cases e
    exact ⟨E, r, Sub.refl⟩
  | pl i =>
    obtain ⟨h, c, hc⟩ := r
    have e' : (match cellAt env i with | some (.own ds) => some (D.lst ds, env.set i (some (Cell.dat (D.lst ds)))) | some (.dat d) => some (d, env) | _ => none) = some (d, env') := e
    unfold cellAt at e'
    rw [hc] at e'
    cases c with
    | dat d' =>
      obtain ⟨v', s, l⟩ := E.dat i d' hc
      rw [h] at s; cases s
      cases e'
      exact ⟨E, l, Sub.refl⟩
    | slf C ns ds => exact absurd hc (fun q => E.slf i C ns ds q)
    | io ds => cases e'
    | own ds =>
      cases e'
      have hi : i < env.length := (List.getElem?_eq_some_iff.mp hc).1
      obtain ⟨a, xs, s, q, l, nm, h0⟩ := E.own i ds hc
      rw [h] at s; cases s
      have sub : ∀ b, MutAt (env.set i (some (Cell.dat (D.lst ds)))) σ b → MutAt env σ b := fun b ⟨j, es, e1, e2⟩ => by
        by_cases hj : i = j
        · subst hj; rw [List.getElem?_set_self hi] at e1; cases e1
        · rw [List.getElem?_set_ne hj] at e1; exact ⟨j, es, e1, e2⟩
      have subM : ∀ b, MM M0 (env.set i (some (Cell.dat (D.lst ds)))) σ b → MM M0 env σ b := fun b z => z.elim .inl fun q => .inr (sub b q)
      have na : ¬ MM M0 (env.set i (some (Cell.dat (D.lst ds)))) σ a := fun z => by
        rcases z with z | ⟨j, es, e1, e2⟩
        · exact nm z
        · by_cases hj : i = j
          · subst hj; rw [List.getElem?_set_self hi] at e1; cases e1
          · rw [List.getElem?_set_ne hj] at e1
            exact hj (E.inj i j a ds es hc e1 h e2)
      have rl : Rep K H (MM M0 (env.set i (some (Cell.dat (D.lst ds)))) σ) (.lst ds) (.ref a) := by
        unfold Rep
        exact ⟨a, xs, rfl, .inl ⟨na, Rd.of q⟩, RepL.stp Stp.refl subM ds xs l⟩
      have other : ∀ {j c}, (env.set i (some (Cell.dat (D.lst ds))))[j]? = some (some c) → (i = j ∧ c = .dat (.lst ds)) ∨ (i ≠ j ∧ env[j]? = some (some c)) := fun {j c} e1 => by
        by_cases hj : i = j
        · subst hj; rw [List.getElem?_set_self hi] at e1; cases e1; exact .inl ⟨rfl, rfl⟩
        · rw [List.getElem?_set_ne hj] at e1; exact .inr ⟨hj, e1⟩
      refine ⟨⟨by rw [List.length_set]; exact E.len, E.old, E.alive, E.tb, E.m0, E.aM, E.a1, fun j d' e1 => ?_, fun j es e1 => ?_, fun j es e1 => ?_, fun j k b es fs e1 e2 => ?_, fun j k es fs e1 e2 => ?_, fun j C ns es e1 => ?_⟩, rl, sub, fun j c e1 => ?_, fun j es e1 => ?_, List.length_set⟩
      · rcases other e1 with ⟨rfl, e⟩ | ⟨_, e1⟩
        · cases e; exact ⟨_, h, rl⟩
        · obtain ⟨v, a1, a2⟩ := E.dat j d' e1
          exact ⟨v, a1, Rep.stp Stp.refl subM d' v a2⟩
      · rcases other e1 with ⟨rfl, e⟩ | ⟨_, e1⟩
        · cases e
        · obtain ⟨b, ys, a1, a2, a3, a4⟩ := E.own j es e1
          exact ⟨b, ys, a1, a2, RepL.stp Stp.refl subM es ys a3, a4⟩
      · rcases other e1 with ⟨rfl, e⟩ | ⟨_, e1⟩
        · cases e
        · obtain ⟨b, ys, a1, a2, a3, a4⟩ := E.io j es e1
          exact ⟨b, ys, a1, a2, a3, RepL.stp Stp.refl subM es ys a4⟩
      · rcases other e1 with ⟨rfl, e⟩ | ⟨_, e1⟩
        · cases e
        · rcases other e2 with ⟨rfl, e⟩ | ⟨_, e2⟩
          · cases e
          · exact E.inj j k b es fs e1 e2
      · rcases other e1 with ⟨rfl, e⟩ | ⟨_, e1⟩
        · cases e
        · rcases other e2 with ⟨rfl, e⟩ | ⟨_, e2⟩
          · cases e
          · exact E.io1 j k es fs e1 e2
      · rcases other e1 with ⟨rfl, e⟩ | ⟨_, e1⟩
        · cases e
        · exact E.slf j C ns es e1
      · by_cases hj : i = j
        · subst hj; exact ⟨_, List.getElem?_set_self hi⟩
        · exact ⟨c, by rw [List.getElem?_set_ne hj]; exact e1⟩
      · rcases other e1 with ⟨rfl, e⟩ | ⟨_, e1⟩
        · cases e
        · exact ⟨es, e1⟩
/-- a value held while more is reckoned -/
theorem hold {d : D} {v : V} (r : Rep K H (MM M0 env σ) d v) (hA : ∀ a, A a → M0 a) (s : Stp (WW A env σ) H H') (sub : Sub σ env env') : Rep K H' (MM M0 env' σ) d v :=
  Rep.stp (s.weak (WW.sub hA)) (fun a z => z.elim .inl fun q => .inr (sub.own a q)) d v r
theorem holdL {d : List D} {v : List V} (r : RepL K H (MM M0 env σ) d v) (hA : ∀ a, A a → M0 a) (s : Stp (WW A env σ) H H') (sub : Sub σ env env') : RepL K H' (MM M0 env' σ) d v :=
  RepL.stp (s.weak (WW.sub hA)) (fun a z => z.elim .inl fun q => .inr (sub.own a q)) d v r
theorem OpdR.hold {o : Opd} {v : V} (r : OpdR K M0 env σ H o v) (hA : ∀ a, A a → M0 a) (s : Stp (WW A env σ) H H') (sub : Sub σ env env') : OpdR K M0 env' σ H' o v := by
  cases o with
  | val d => exact Mp.hold r hA s sub
  | pl i =>
    obtain ⟨h, c, hc⟩ := r
    exact ⟨h, sub.there i c hc⟩
theorem Stp.trans2 {H1 H2 : Hp} {e1 : Env} (a : Stp (WW A env σ) H H1) (b : Stp (WW A e1 σ) H1 H2) (sub : Sub σ env e1) : Stp (WW A env σ) H H2 :=
  a.trans (b.weak fun x z => z.elim .inl fun q => .inr (sub.own x q))
/-- what follows a reckoning: P of its outcome, W of an error -/
def Sat {α : Type} (K : PySem.W.Frag) (H0 : Hp) (M0 A : AS) (W : WX) (r : R α) (env : Env) (σ : L2.St) (H : Hp) (P : α → Env → Hp → Prop) : Prop := match r with
  | .ok o env' => ∀ H', Stp (WW A env σ) H H' → Sub σ env env' → EnvR K H0 M0 A env' σ H' → P o env' H'
  | .exc C f d env' => ∀ dd v H', Stp (WW A env σ) H H' → Sub σ env env' → EnvR K H0 M0 A env' σ H' → H' dd = some (.xd [(f, v)]) → Rep K H' (MM M0 env' σ) d v → W (.ref (clsAt K C)) (some dd) σ H'
  | .bad => False
variable {W : WX}
theorem Sat.bind {α β : Type} {r : R α} {f : α → Env → R β} {P : β → Env → Hp → Prop} (h : Sat K H0 M0 A W (r.bind f) env σ H P) :
    Sat K H0 M0 A W r env σ H fun o e1 H1 => Sat K H0 M0 A W (f o e1) e1 σ H1 P := by
  cases r with
  | bad => exact h
  | exc C n d e => exact h
  | ok o e1 =>
    intro H1 s1 sub1 E1
    have h' : Sat K H0 M0 A W (f o e1) env σ H P := h
    generalize f o e1 = q at h'
    show Sat K H0 M0 A W q e1 σ H1 P
    cases q with
    | bad => exact h'
    | exc C n d e => exact fun dd v H2 s2 sub2 E2 => h' dd v H2 (s1.trans2 s2 sub1) (sub1.trans sub2) E2
    | ok o2 e2 => exact fun H2 s2 sub2 E2 => h' H2 (s1.trans2 s2 sub1) (sub1.trans sub2) E2
theorem Sat.mono {α : Type} {r : R α} {P P' : α → Env → Hp → Prop} (h : Sat K H0 M0 A W r env σ H P) (m : ∀ o e1 H1, r = .ok o e1 → Stp (WW A env σ) H H1 → Sub σ env e1 → EnvR K H0 M0 A e1 σ H1 → P o e1 H1 → P' o e1 H1) : Sat K H0 M0 A W r env σ H P' := by
  cases r with
  | bad => exact h
  | exc C n d e => exact h
  | ok o e1 => exact fun H1 s1 sub1 E1 => m o e1 H1 rfl s1 sub1 E1 (h H1 s1 sub1 E1)
/-- fewer lists are ours from here on -/
theorem Sat.sub {α : Type} {r : R α} {P : α → Env → Hp → Prop} (h : Sat K H0 M0 A W r env σ H P) (u : Sub σ env env') : Sat K H0 M0 A W r env' σ H P := by
  have w : ∀ x, WW A env' σ x → WW A env σ x := fun x z => z.elim .inl fun q => .inr (u.own x q)
  cases r with
  | bad => exact h
  | exc C n d e => exact fun dd v H2 s2 sub2 E2 => h dd v H2 (s2.weak w) (u.trans sub2) E2
  | ok o e1 => exact fun H1 s1 sub1 E1 => h H1 (s1.weak w) (u.trans sub1) E1
end
end Mp
set_option maxHeartbeats 4000000
namespace Mp
open PySem L2
variable [TabsW]
abbrev NoA : AS := fun _ => False
/-- as Rep, the list itself may be one of ours -/
def RepT (K : PySem.W.Frag) (H : Hp) (M : AS) (d : D) (v : V) : Prop := match d with
  | .lst ds => ∃ a xs, v = .ref a ∧ SqL K H a xs ∧ RepL K H M ds xs
  | .tup ds => ∃ a xs, v = .ref a ∧ Rd H a (.tup xs) ∧ RepL K H M ds xs ∧ ¬ M a
  | d => Rep K H M d v
section
variable {K : PySem.W.Frag} {H H' : Hp} {M : AS} {d : D} {v : V}
theorem Rep.top (r : Rep K H M d v) : RepT K H M d v := by
  cases d with
  | lst ds => unfold Rep at r; obtain ⟨a, xs, h1, h2, h3⟩ := r; exact ⟨a, xs, h1, h2.l, h3⟩
  | tup ds => unfold Rep at r; obtain ⟨a, xs, h1, h0, h2, h3⟩ := r; exact ⟨a, xs, h1, h2, h3, h0⟩
  | _ => exact r
theorem RepT.loose (r : RepT K H M d v) : Rep K H NoA d v := by
  cases d with
  | lst ds =>
    obtain ⟨a, xs, h1, h2, h3⟩ := r
    unfold Rep
    exact ⟨a, xs, h1, RdK.ofS id h2, RepL.stp Stp.refl (fun _ z => z.elim) ds xs h3⟩
  | tup ds =>
    obtain ⟨a, xs, h1, h2, h3, _⟩ := r
    unfold Rep
    exact ⟨a, xs, h1, id, h2, RepL.stp Stp.refl (fun _ z => z.elim) ds xs h3⟩
  | non => exact Rep.stp (M := M) Stp.refl (fun _ z => z.elim) _ v r
  | bl b => exact Rep.stp (M := M) Stp.refl (fun _ z => z.elim) _ v r
  | int b => exact Rep.stp (M := M) Stp.refl (fun _ z => z.elim) _ v r
  | str b => exact Rep.stp (M := M) Stp.refl (fun _ z => z.elim) _ v r
  | obj C ns ds => exact Rep.stp (M := M) Stp.refl (fun _ z => z.elim) _ v r
  | raw b => exact Rep.stp (M := M) Stp.refl (fun _ z => z.elim) _ v r
  | dct => exact Rep.stp (M := M) Stp.refl (fun _ z => z.elim) _ v r
  | dk ks ds => exact Rep.stp (M := M) Stp.refl (fun _ z => z.elim) _ v r
  | err C f d => exact Rep.stp (M := M) Stp.refl (fun _ z => z.elim) _ v r
  | fn x => exact Rep.stp (M := M) Stp.refl (fun _ z => z.elim) _ v r
theorem RepT.int {i : Int} (r : RepT K H M (.int i) v) : v = .int i := by
  have r' : Rep K H M (.int i) v := r
  unfold Rep at r'; exact r'
theorem RepT.bl {i : Bool} (r : RepT K H M (.bl i) v) : v = .bl i := by
  have r' : Rep K H M (.bl i) v := r
  unfold Rep at r'; exact r'
theorem RepT.str {i : Str} (r : RepT K H M (.str i) v) : v = .str i := by
  have r' : Rep K H M (.str i) v := r
  unfold Rep at r'; exact r'
theorem RepT.non (r : RepT K H M .non v) : v = .non := by
  have r' : Rep K H M .non v := r
  unfold Rep at r'; exact r'
theorem rep_int (i : Int) : Rep K H M (.int i) (.int i) := by unfold Rep; rfl
theorem rep_bl (i : Bool) : Rep K H M (.bl i) (.bl i) := by unfold Rep; rfl
theorem rep_str (i : Str) : Rep K H M (.str i) (.str i) := by unfold Rep; rfl
theorem rep_non : Rep K H M .non .non := by unfold Rep; rfl
/-- a list just made -/
theorem rep_new {p : Addr} {ds : List D} {xs : List V} (hp : H p = none) (hM : ¬ M p) (r : RepL K H M ds xs) : Rep K (upd H p (.lst xs)) M (.lst ds) (.ref p) := by
  unfold Rep
  exact ⟨p, xs, rfl, .inl ⟨hM, Rd.of upd_same⟩, RepL.stp (Stp.new (M := M) hp) (fun _ z => z) ds xs r⟩
theorem rep_newT {p : Addr} {ds : List D} {xs : List V} (hp : H p = none) (hM : ¬ M p) (r : RepL K H M ds xs) : Rep K (upd H p (.tup xs)) M (.tup ds) (.ref p) := by
  unfold Rep
  exact ⟨p, xs, rfl, hM, Rd.of upd_same, RepL.stp (Stp.new (M := M) hp) (fun _ z => z) ds xs r⟩
end
section
variable {K : PySem.W.Frag} {H0 H H' : Hp} {M0 A : AS} {env env' : Env} {σ : L2.St}
theorem OpdR.rdT (E : EnvR K H0 M0 A env σ H) {o : Opd} {v : V} {d : D} (r : OpdR K M0 env σ H o v) (e : rdO env o = some d) : RepT K H (MM M0 env σ) d v := by
  cases o with
  | val d' =>
    cases e
    exact Rep.top r
  | pl i =>
    obtain ⟨h, c, hc⟩ := r
    have e' : (cellAt env i).map content = some d := e
    unfold cellAt at e'
    rw [hc] at e'
    cases c with
    | dat d' =>
      obtain ⟨v', s, l⟩ := E.dat i d' hc
      rw [h] at s; cases s
      cases e'
      exact Rep.top l
    | slf C ns ds => exact absurd hc (fun q => E.slf i C ns ds q)
    | own ds =>
      obtain ⟨a, xs, s, q, l, _⟩ := E.own i ds hc
      rw [h] at s; cases s
      cases e'
      exact ⟨a, xs, rfl, .inl (Rd.of q), l⟩
    | io ds =>
      obtain ⟨a, xs, s, _, q, l⟩ := E.io i ds hc
      rw [h] at s; cases s
      cases e'
      exact ⟨a, xs, rfl, .inl (Rd.of q), l⟩
end
/-- a two-place operation is what f says -/
def OpS (K : PySem.W.Frag) (r : R2) (f : D → D → Option D) : Prop := ∀ (M : AS) (x y : V) (H : Hp) (p q z : D) (Q : VK), RepT K H M p x → RepT K H M q y → (∀ a, H a = none → ¬ M a) → f p q = some z →
  (∀ v H', Stp NoA H H' → Rep K H' M z v → Q v H') → r x y H Q
def rOr (r r' : R2) : R2 := fun x y H Q => r x y H Q ∨ r' x y H Q
theorem OpR.or {X : Cx} {f : Value → Value → Sem Value} {r r' : R2} (a : OpR X f r) (b : OpR X f r') : OpR X f (rOr r r') := fun pins s σ H x y v u Q I rx ry h =>
  h.elim (fun q => a pins s σ H x y v u Q I rx ry q) fun q => b pins s σ H x y v u Q I rx ry q
/-- list + list, however they stand -/
def rCatR (K : PySem.W.Frag) : R2 := fun x y H Q => ∃ l b xs zs, x = .ref l ∧ y = .ref b ∧ SqL K H l xs ∧ SqL K H b zs ∧ xs.length + zs.length ≤ sizeLine ∧ ∀ p, H p = none → Q (.ref p) (upd H p (.lst (xs ++ zs)))
theorem op_catR {X : Cx} : OpR X (binaryOp .Add) (rCatR X.K) := by
  intro pins s σ H x y v u Q I rx ry h
  obtain ⟨l, b, xs, zs, rfl, rfl, hH, hB, hz, q⟩ := h
  cases rx
  cases ry
  obtain ⟨its, r, ⟨⟨cls, dd, data, sl⟩, n, ho, hc, hd0, hd⟩, hz1⟩ := I.list hH
  obtain ⟨its2, r2, ⟨⟨cls2, dd2, data2, sl2⟩, n2, ho2, hc2, hd02, hd2⟩, hz2⟩ := I.list hB
  simp only at hc hd hc2 hd2
  subst hc hd hc2 hd2
  have l1 := r.length
  have l2 := r2.length
  refine PySem.concat_meets ⟨_, ho, rfl⟩ ⟨_, ho2, rfl⟩ PySem.noFill_list_add PySem.seq_list_add PySem.F.slot_list_add PySem.F.entry_list_add (PySem.F.args_list_add_2 _ _) (PyProof.Rows.list_addW l b its.toArray its2.toArray n n2 dd dd2 sl sl2 (by rw [List.size_toArray, List.size_toArray]; omega)) ⟨ho, ho2, ?_⟩
  have ea : its.toArray ++ its2.toArray = (its ++ its2).toArray := by simp
  rw [ea]
  exact ⟨.ref _, _, I.lnew (t' := s.toks) (r.append r2) (by rw [List.length_append]; omega), rfl, q _ I.fresh⟩
def rAddU (K : PySem.W.Frag) : R2 := rOr (rI0 fun i j => .int (i + j)) (rOr (fun x y H Q => ∃ i j, x = .str i ∧ y = .str j ∧ i.length + j.length ≤ sizeLine ∧ Q (.str (i ++ j)) H) (rCatR K))
theorem op_addU {X : Cx} : OpR X (binaryOp .Add) (rAddU X.K) := OpR.or op_add (OpR.or op_add_str op_catR)
theorem s_add {K : PySem.W.Frag} : OpS K (rAddU K) addD := by
  intro M x y H p q z Q rp rq hM e k
  have hs : sizeLine = 16777216 := sizeLine_eq
  unfold addD at e
  split at e
  · cases e
    rw [rp.int, rq.int]
    exact .inl ⟨_, _, rfl, rfl, k _ _ Stp.refl (rep_int _)⟩
  · rename_i a b
    by_cases hl : a.length + b.length ≤ BIG
    · rw [if_pos hl] at e; cases e
      rw [rp.str, rq.str]
      exact .inr (.inl ⟨_, _, rfl, rfl, by unfold BIG at hl; omega, k _ _ Stp.refl (rep_str _)⟩)
    · rw [if_neg hl] at e; cases e
  · rename_i a b
    by_cases hl : a.length + b.length ≤ BIG
    · rw [if_pos hl] at e; cases e
      obtain ⟨la, xs, rfl, h1, r1⟩ := rp
      obtain ⟨lb, ys, rfl, h2, r2⟩ := rq
      refine .inr (.inr ⟨la, lb, xs, ys, rfl, rfl, h1, h2, by have := r1.length; have := r2.length; unfold BIG at hl; omega, fun p hp => k _ _ (Stp.new hp) (rep_new hp (hM p hp) (r1.append r2))⟩)
    · rw [if_neg hl] at e; cases e
  · cases e
theorem s_sub {K : PySem.W.Frag} : OpS K (rI0 fun i j => .int (i - j)) subD := by
  intro M x y H p q z Q rp rq hM e k
  unfold subD at e
  split at e
  · cases e
    rw [rp.int, rq.int]
    exact ⟨_, _, rfl, rfl, k _ _ Stp.refl (rep_int _)⟩
  · cases e
def rMulU : R2 := rI CMul fun i j => .int (i * j)
theorem s_mul {K : PySem.W.Frag} : OpS K rMulU (fun p q => match p, q with | .int _, .int _ => mulD p q | _, _ => none) := by
  intro M x y H p q z Q rp rq hM e k
  dsimp only at e
  split at e
  · rename_i i j
    unfold mulD at e
    dsimp only at e
    split at e
    · rename_i hc
      cases e
      rw [rp.int, rq.int]
      refine ⟨_, _, rfl, rfl, ?_, k _ _ Stp.refl (rep_int _)⟩
      unfold CMul
      have e64 : (2 : Int) ^ 64 = 18446744073709551616 := by decide
      rw [e64]
      exact hc
    · cases e
  · cases e
theorem s_fdiv {K : PySem.W.Frag} : OpS K (rI CDiv fun i j => .int (i / j)) fdivD := by
  intro M x y H p q z Q rp rq hM e k
  unfold fdivD at e
  split at e
  · split at e
    · rename_i hc
      cases e
      rw [rp.int, rq.int]
      exact ⟨_, _, rfl, rfl, hc, k _ _ Stp.refl (rep_int _)⟩
    · cases e
  · cases e
theorem s_mod {K : PySem.W.Frag} : OpS K (rI (fun _ j => 0 < j) fun i j => .int (i % j)) modD := by
  intro M x y H p q z Q rp rq hM e k
  unfold modD at e
  split at e
  · split at e
    · rename_i hc
      cases e
      rw [rp.int, rq.int]
      exact ⟨_, _, rfl, rfl, hc, k _ _ Stp.refl (rep_int _)⟩
    · cases e
  · cases e
theorem s_pow {K : PySem.W.Frag} : OpS K (rI CPow fun i j => .int (i ^ j.toNat)) powD := by
  intro M x y H p q z Q rp rq hM e k
  unfold powD at e
  split at e
  · split at e
    · rename_i hc
      cases e
      rw [rp.int, rq.int]
      exact ⟨_, _, rfl, rfl, hc, k _ _ Stp.refl (rep_int _)⟩
    · cases e
  · cases e
section
mutual
theorem eqD_py : ∀ (d e : D) (p q : PyData), toPy d = some p → toPy e = some q → PyData.eqv p q = eqD d e
  | .non, e, p, q, hp, hq => by
    unfold toPy at hp; cases hp
    cases e <;> (unfold toPy at hq) <;> first | (cases hq; done) | (cases hq; rfl) | (rename_i ds; cases h : toPys ds <;> (rw [h] at hq; cases hq); rfl)
  | .bl b, e, p, q, hp, hq => by
    unfold toPy at hp; cases hp
    cases e <;> (unfold toPy at hq) <;> first | (cases hq; done) | (cases hq; rfl) | (rename_i ds; cases h : toPys ds <;> (rw [h] at hq; cases hq); rfl)
  | .int b, e, p, q, hp, hq => by
    unfold toPy at hp; cases hp
    cases e <;> (unfold toPy at hq) <;> first | (cases hq; done) | (cases hq; rfl) | (rename_i ds; cases h : toPys ds <;> (rw [h] at hq; cases hq); rfl)
  | .str b, e, p, q, hp, hq => by
    unfold toPy at hp; cases hp
    cases e <;> (unfold toPy at hq) <;> first | (cases hq; done) | (cases hq; rfl) | (rename_i ds; cases h : toPys ds <;> (rw [h] at hq; cases hq); rfl)
  | .lst ds, e, p, q, hp, hq => by
    unfold toPy at hp
    cases h1 : toPys ds with
    | none => rw [h1] at hp; cases hp
    | some ps =>
      rw [h1] at hp; cases hp
      cases e with
      | lst es =>
        unfold toPy at hq
        cases h2 : toPys es with
        | none => rw [h2] at hq; cases hq
        | some qs => rw [h2] at hq; cases hq; exact eqDs_py ds es ps qs h1 h2
      | tup es =>
        unfold toPy at hq
        cases h2 : toPys es with
        | none => rw [h2] at hq; cases hq
        | some qs => rw [h2] at hq; cases hq; rfl
      | _ => unfold toPy at hq; cases hq <;> rfl
  | .tup ds, e, p, q, hp, hq => by
    unfold toPy at hp
    cases h1 : toPys ds with
    | none => rw [h1] at hp; cases hp
    | some ps =>
      rw [h1] at hp; cases hp
      cases e with
      | tup es =>
        unfold toPy at hq
        cases h2 : toPys es with
        | none => rw [h2] at hq; cases hq
        | some qs => rw [h2] at hq; cases hq; exact eqDs_py ds es ps qs h1 h2
      | lst es =>
        unfold toPy at hq
        cases h2 : toPys es with
        | none => rw [h2] at hq; cases hq
        | some qs => rw [h2] at hq; cases hq; rfl
      | _ => unfold toPy at hq; cases hq <;> rfl
  | .obj C ns ds, e, p, q, hp, hq => by unfold toPy at hp; cases hp
  | .raw v, e, p, q, hp, hq => by unfold toPy at hp; cases hp
  | .dct, e, p, q, hp, hq => by unfold toPy at hp; cases hp
  | .dk ks ds, e, p, q, hp, hq => by unfold toPy at hp; cases hp
  | .err C f d, e, p, q, hp, hq => by unfold toPy at hp; cases hp
  | .fn x, e, p, q, hp, hq => by unfold toPy at hp; cases hp
theorem eqDs_py : ∀ (ds es : List D) (ps qs : List PyData), toPys ds = some ps → toPys es = some qs → PyData.eqvAll ps qs = eqDs ds es
  | [], es, ps, qs, hp, hq => by
    unfold toPys at hp; cases hp
    cases es with
    | nil => unfold toPys at hq; cases hq; rfl
    | cons e es =>
      unfold toPys at hq
      cases h1 : toPy e with
      | none => rw [h1] at hq; cases hq
      | some q0 =>
        cases h2 : toPys es with
        | none => rw [h1, h2] at hq; cases hq
        | some q1 => rw [h1, h2] at hq; cases hq; rfl
  | d :: ds, es, ps, qs, hp, hq => by
    unfold toPys at hp
    cases h3 : toPy d with
    | none => rw [h3] at hp; cases hp
    | some p0 =>
      cases h4 : toPys ds with
      | none => rw [h3, h4] at hp; cases hp
      | some p1 =>
        rw [h3, h4] at hp; cases hp
        cases es with
        | nil => unfold toPys at hq; cases hq; rfl
        | cons e es =>
          unfold toPys at hq
          cases h1 : toPy e with
          | none => rw [h1] at hq; cases hq
          | some q0 =>
            cases h2 : toPys es with
            | none => rw [h1, h2] at hq; cases hq
            | some q1 =>
              rw [h1, h2] at hq; cases hq
              show (PyData.eqv p0 q0 && PyData.eqvAll p1 q1) = (eqD d e && eqDs ds es)
              rw [eqD_py d e p0 q0 h3 h1, eqDs_py ds es p1 q1 h4 h2]
end
end
end Mp
set_option maxHeartbeats 4000000
namespace Mp
open PySem L2
variable [TabsW]
mutual
theorem data_py : ∀ (n : Nat) (d : D), dataD n d = true → ∃ p, toPy d = some p ∧ p.canLay0 = true ∧ p.depth ≤ n
  | n, .non, h => ⟨.none, by unfold toPy; rfl, rfl, Nat.zero_le _⟩
  | n, .bl b, h => ⟨.bool b, by unfold toPy; rfl, rfl, Nat.zero_le _⟩
  | n, .int b, h => ⟨.int b, by unfold toPy; rfl, rfl, Nat.zero_le _⟩
  | n, .str b, h => ⟨.str b, by unfold toPy; rfl, by unfold dataD at h; exact h, Nat.zero_le _⟩
  | 0, .lst ds, h => by unfold dataD at h; cases h
  | 0, .tup ds, h => by unfold dataD at h; cases h
  | n + 1, .lst ds, h => by
    unfold dataD at h
    obtain ⟨ps, e, c, z⟩ := datas_py n ds h
    exact ⟨.list ps, by unfold toPy; rw [e] <;> rfl, c, by show PyData.depthAll ps + 1 ≤ n + 1; omega⟩
  | n + 1, .tup ds, h => by
    unfold dataD at h
    obtain ⟨ps, e, c, z⟩ := datas_py n ds h
    exact ⟨.tuple ps, by unfold toPy; rw [e] <;> rfl, c, by show PyData.depthAll ps + 1 ≤ n + 1; omega⟩
  | 0, .obj C ns ds, h => by unfold dataD at h; cases h
  | n + 1, .obj C ns ds, h => by unfold dataD at h; cases h
  | 0, .raw v, h => by unfold dataD at h; cases h
  | n + 1, .raw v, h => by unfold dataD at h; cases h
  | 0, .dct, h => by unfold dataD at h; cases h
  | n + 1, .dct, h => by unfold dataD at h; cases h
  | 0, .dk ks ds, h => by unfold dataD at h; cases h
  | n + 1, .dk ks ds, h => by unfold dataD at h; cases h
  | 0, .err C f d, h => by unfold dataD at h; cases h
  | n + 1, .err C f d, h => by unfold dataD at h; cases h
  | 0, .fn x, h => by unfold dataD at h; cases h
  | n + 1, .fn x, h => by unfold dataD at h; cases h
theorem datas_py : ∀ (n : Nat) (ds : List D), dataDs n ds = true → ∃ ps, toPys ds = some ps ∧ PyData.canLayAll0 ps = true ∧ PyData.depthAll ps ≤ n
  | n, [], h => ⟨[], by unfold toPys; rfl, rfl, Nat.zero_le _⟩
  | n, d :: ds, h => by
    unfold dataDs at h
    rw [Bool.and_eq_true] at h
    obtain ⟨p, e, c, z⟩ := data_py n d h.1
    obtain ⟨ps, e2, c2, z2⟩ := datas_py n ds h.2
    refine ⟨p :: ps, by unfold toPys; rw [e, e2] <;> rfl, ?_, ?_⟩
    · show (p.canLay0 && PyData.canLayAll0 ps) = true
      rw [c, c2] <;> rfl
    · show max p.depth (PyData.depthAll ps) ≤ n
      omega
end
theorem shaped_of {n : Nat} {d : D} (h : dataD n d = true) (hn : n ≤ 64) : ∃ p, toPy d = some p ∧ SeqAt.shaped p = true := by
  obtain ⟨p, e, c, z⟩ := data_py n d h
  refine ⟨p, e, ?_⟩
  unfold SeqAt.shaped
  rw [c, decide_eq_true (by omega : p.depth ≤ 64)]
  rfl
/-- a comparison is what cmpD says -/
def CmS (K : PySem.W.Frag) (r : R2) (op : COp) : Prop := OpS K r fun p q => (cmpD op p q).map D.bl
theorem OpS.imp {K : PySem.W.Frag} {r : R2} {f g : D → D → Option D} (h : OpS K r f) (i : ∀ p q z, g p q = some z → f p q = some z) : OpS K r g :=
  fun M x y H p q z Q rp rq hM e k => h M x y H p q z Q rp rq hM (i p q z e) k
section
variable {K : PySem.W.Frag}
theorem s_eq : CmS K (rEqD K) .eq := by
  intro M x y H p q z Q rp rq hM e k
  dsimp only [cmpD] at e
  split at e
  · rename_i hd
    cases e
    rw [Bool.and_eq_true] at hd
    obtain ⟨a, ea, sa⟩ := shaped_of hd.1 (by decide)
    obtain ⟨b, eb, sb⟩ := shaped_of hd.2 (by decide)
    refine ⟨a, b, dp_of p x a rp.loose ea, dp_of q y b rq.loose eb, sa, sb, ?_⟩
    rw [eqD_py p q a b ea eb]
    exact k _ _ Stp.refl (rep_bl _)
  · cases e
theorem s_ne : CmS K (rNeD K) .ne := by
  intro M x y H p q z Q rp rq hM e k
  dsimp only [cmpD] at e
  split at e
  · rename_i hd
    cases e
    rw [Bool.and_eq_true] at hd
    obtain ⟨a, ea, sa⟩ := shaped_of hd.1 (by decide)
    obtain ⟨b, eb, sb⟩ := shaped_of hd.2 (by decide)
    refine ⟨a, b, dp_of p x a rp.loose ea, dp_of q y b rq.loose eb, sa, sb, ?_⟩
    rw [eqD_py p q a b ea eb]
    exact k _ _ Stp.refl (rep_bl _)
  · cases e
theorem s_lt : CmS K (rI0 fun i j => .bl (decide (i < j))) .lt := by
  intro M x y H p q z Q rp rq hM e k
  cases p <;> cases q <;> first | (cases e; done) | skip
  cases e
  rw [rp.int, rq.int]
  exact ⟨_, _, rfl, rfl, k _ _ Stp.refl (rep_bl _)⟩
theorem s_gt : CmS K (rI0 fun i j => .bl (decide (j < i))) .gt := by
  intro M x y H p q z Q rp rq hM e k
  cases p <;> cases q <;> first | (cases e; done) | skip
  cases e
  rw [rp.int, rq.int]
  exact ⟨_, _, rfl, rfl, k _ _ Stp.refl (rep_bl _)⟩
theorem s_ge : CmS K (rI0 fun i j => .bl (decide (j ≤ i))) .ge := by
  intro M x y H p q z Q rp rq hM e k
  cases p <;> cases q <;> first | (cases e; done) | skip
  cases e
  rw [rp.int, rq.int]
  exact ⟨_, _, rfl, rfl, k _ _ Stp.refl (rep_bl _)⟩
theorem atI_rep {H : Hp} {M : AS} {ds : List D} {xs : List V} {i : Int} {d : D} (r : RepL K H M ds xs) (e : atI ds i = some d) : ∃ x, atI xs i = some x ∧ Rep K H M d x := by
  unfold atI at e ⊢
  rw [r.length] at e
  cases h : ixN xs.length i with
  | none => rw [h] at e; cases e
  | some j =>
    rw [h] at e
    exact r.get e
theorem s_ix : OpS K (rOr (rIxL K) (rIxT K)) ixD := by
  intro M x y H p q z Q rp rq hM e k
  unfold ixD at e
  split at e
  · obtain ⟨a, xs, rfl, h, r⟩ := rp
    obtain ⟨w, e1, e2⟩ := atI_rep r e
    exact .inl ⟨a, xs, _, w, rfl, rq.int, h, e1, k _ _ Stp.refl e2⟩
  · obtain ⟨a, xs, rfl, h, r, _⟩ := rp
    obtain ⟨w, e1, e2⟩ := atI_rep r e
    exact .inr ⟨a, xs, _, w, rfl, rq.int, Rd.t h, e1, k _ _ Stp.refl e2⟩
  · cases e
/-- a call on values is what f says -/
def CaS (K : PySem.W.Frag) (r : List V → Hp → VK → Prop) (f : List D → Option D) : Prop := ∀ (M : AS) (xs : List V) (H : Hp) (ps : List D) (z : D) (Q : VK), Paired (RepT K H M) ps xs → (∀ a, H a = none → ¬ M a) → f ps = some z →
  (∀ v H', Stp NoA H H' → Rep K H' M z v → Q v H') → r xs H Q
theorem s_len : CaS K (fun xs H Q => ∃ x n, xs = [x] ∧ LenV K x H n ∧ Q (.int n) H) (bltD .len) := by
  intro M xs H ps z Q r hM e k
  have hs : sizeLine = 16777216 := sizeLine_eq
  cases r with
  | nil => cases e
  | cons r1 r2 =>
    rename_i d ds x xs'
    cases r2 with
    | cons a b => cases d <;> cases e
    | nil =>
      cases d with
      | lst es =>
        cases e
        obtain ⟨a, ys, rfl, h, rr⟩ := r1
        exact ⟨_, _, rfl, .inl ⟨ys, h, rfl⟩, by rw [← rr.length]; exact k _ _ Stp.refl (rep_int _)⟩
      | tup es =>
        cases e
        obtain ⟨a, ys, rfl, h, rr, _⟩ := r1
        exact ⟨_, _, rfl, .inr ⟨ys, Rd.t h, rfl⟩, by rw [← rr.length]; exact k _ _ Stp.refl (rep_int _)⟩
      | str s =>
        have e' : (if s.length ≤ 1000000 then some (D.int s.length) else none) = some z := e
        by_cases hl : s.length ≤ 1000000
        · rw [if_pos hl] at e'; cases e'
          rw [r1.str]
          exact ⟨_, _, rfl, ⟨by omega, rfl⟩, k _ _ Stp.refl (rep_int _)⟩
        · rw [if_neg hl] at e'; cases e'
      | _ => cases e
end
end Mp
set_option maxHeartbeats 4000000
namespace Mp
open PySem L2
variable [TabsW]
section
variable {K : PySem.W.Frag}
theorem one_of {H : Hp} {M : AS} {ps : List D} {xs : List V} {f : List D → Option D} {z : D} (r : Paired (RepT K H M) ps xs) (e : f ps = some z) (h0 : f [] = none) (h2 : ∀ a b c, f (a :: b :: c) = none) : ∃ d x, ps = [d] ∧ xs = [x] ∧ RepT K H M d x := by
  cases r with
  | nil => rw [h0] at e; cases e
  | cons r1 r2 =>
    cases r2 with
    | nil => exact ⟨_, _, rfl, rfl, r1⟩
    | cons a b => rw [h2] at e; cases e
theorem s_int : CaS K (fun xs H Q => (∃ i, xs = [.int i] ∧ Q (.int i) H) ∨ ∃ k, xs = [.bl k] ∧ Q (.int (if k then 1 else 0)) H) (bltD .int) := by
  intro M xs H ps z Q r hM e k
  obtain ⟨d, x, rfl, rfl, rd⟩ := one_of r e rfl (fun a b c => by cases a <;> rfl)
  cases d <;> first | (cases e; done) | skip
  · cases e; rw [rd.bl]; exact .inr ⟨_, rfl, k _ _ Stp.refl (rep_int _)⟩
  · cases e; rw [rd.int]; exact .inl ⟨_, rfl, k _ _ Stp.refl (rep_int _)⟩
theorem s_abs : CaS K (fun xs H Q => ∃ i, xs = [.int i] ∧ Q (.int (if i < 0 then -i else i)) H) (bltD .abs) := by
  intro M xs H ps z Q r hM e k
  obtain ⟨d, x, rfl, rfl, rd⟩ := one_of r e rfl (fun a b c => by cases a <;> rfl)
  cases d <;> first | (cases e; done) | skip
  cases e; rw [rd.int]; exact ⟨_, rfl, k _ _ Stp.refl (rep_int _)⟩
end
end Mp
set_option maxHeartbeats 4000000
namespace Mp
open PySem L2
variable [TabsW]
def IoA (io : Option Nat) (vs : List V) : AS := fun a => ∃ i, io = some i ∧ vs[i]? = some (.ref a)
def ArgR (K : PySem.W.Frag) (H : Hp) (M : AS) (io : Option Nat) (ds : List D) (vs : List V) : Prop := ds.length = vs.length ∧ ∀ (i : Nat) (d : D) (v : V), ds[i]? = some d → vs[i]? = some v →
  (io ≠ some i → Rep K H M d v) ∧ (io = some i → ∃ a xs es, d = .lst es ∧ v = .ref a ∧ M a ∧ H a = some (.lst xs) ∧ RepL K H M es xs)
def OutR (K : PySem.W.Frag) (H : Hp) (M : AS) (io : Option Nat) (out : List D) (vs : List V) : Prop := ∀ i, io = some i → ∃ a xs, vs[i]? = some (.ref a) ∧ H a = some (.lst xs) ∧ RepL K H M out xs
/-- what a def with the sense F promises: n arguments, the one at io is changed -/
def spF (K : PySem.W.Frag) (n : Nat) (io : Option Nat) (F : List D → FR) : Sp := fun vs H Q E => vs.length = n ∧ ∃ (M : AS) (ds : List D), MOk M H ∧ ArgR K H M io ds vs ∧
  (match F ds with
   | .ok d out => ∀ v H', Stp (IoA io vs) H H' → OutR K H' M io out vs → Rep K H' M d v → Q v H'
   | .exc C f d out => ∀ dd v H', Stp (IoA io vs) H H' → OutR K H' M io out vs → H' dd = some (.xd [(f, v)]) → Rep K H' M d v → E (.ref (clsAt K C)) (some dd) H'
   | .bad => False)
section
variable {K : PySem.W.Frag} {H0 H H' : Hp} {M0 A : AS} {env env' : Env} {σ : L2.St}
theorem EnvR.setOwn (E : EnvR K H0 M0 A env σ H) {i : Nat} {ds out : List D} {a : Addr} {ys : List V} (hc : env[i]? = some (some (Cell.own ds))) (ha : σ[i]? = some (some (V.ref a))) (s : Stp (fun x => x = a) H H') (h' : H' a = some (.lst ys))
    (r : RepL K H' (MM M0 env σ) out ys) : EnvR K H0 M0 A (env.set i (some (Cell.own out))) σ H' ∧ Sub σ env (env.set i (some (Cell.own out))) ∧ MM M0 (env.set i (some (Cell.own out))) σ = MM M0 env σ := by
  have hi : i < env.length := (List.getElem?_eq_some_iff.mp hc).1
  obtain ⟨a', xs, sa, q, l, nm, h0⟩ := E.own i ds hc
  rw [ha] at sa; cases sa
  have mutI : ∀ b, MutAt (env.set i (some (Cell.own out))) σ b ↔ MutAt env σ b := fun b => by
    constructor
    · rintro ⟨j, es, e1, e2⟩
      by_cases hj : i = j
      · subst hj; exact ⟨i, ds, hc, e2⟩
      · rw [List.getElem?_set_ne hj] at e1; exact ⟨j, es, e1, e2⟩
    · rintro ⟨j, es, e1, e2⟩
      by_cases hj : i = j
      · subst hj; exact ⟨i, out, List.getElem?_set_self hi, e2⟩
      · exact ⟨j, es, by rw [List.getElem?_set_ne hj]; exact e1, e2⟩
  have eM : MM M0 (env.set i (some (Cell.own out))) σ = MM M0 env σ := by
    funext b
    exact propext ⟨fun z => z.elim .inl fun q => .inr ((mutI b).mp q), fun z => z.elim .inl fun q => .inr ((mutI b).mpr q)⟩
  have Ma : MM M0 env σ a := .inr ⟨i, ds, hc, ha⟩
  have st : Stp (MM M0 env σ) H H' := s.weak fun x e => e ▸ Ma
  have other : ∀ {j c}, (env.set i (some (Cell.own out)))[j]? = some (some c) → (i = j ∧ c = .own out) ∨ (i ≠ j ∧ env[j]? = some (some c)) := fun {j c} e1 => by
    by_cases hj : i = j
    · subst hj; rw [List.getElem?_set_self hi] at e1; cases e1; exact .inl ⟨rfl, rfl⟩
    · rw [List.getElem?_set_ne hj] at e1; exact .inr ⟨hj, e1⟩
  refine ⟨⟨by rw [List.length_set]; exact E.len, fun b o e n t => ?_, fun b h => s.mo b (E.alive b h), fun P q h => s.tb P q h (E.tb P q h), fun b hb => s.mo b (E.m0 b hb), E.aM, E.a1, fun j d' e1 => ?_, fun j es e1 => ?_, fun j es e1 => ?_, fun j k b es fs e1 e2 e3 e4 => ?_, fun j k es fs e1 e2 => ?_, fun j C ns es e1 => ?_⟩, ⟨fun b z => (mutI b).mp z, fun j c e1 => ?_, fun j es e1 => ?_, List.length_set⟩, eM⟩
  · exact s.st b o (E.old b o e n t) (fun z => h0 ⟨o, by rw [← z]; exact e, t⟩) t
  · rw [eM]
    rcases other e1 with ⟨rfl, e⟩ | ⟨_, e1⟩
    · cases e
    · obtain ⟨v, a1, a2⟩ := E.dat j d' e1
      exact ⟨v, a1, Rep.stp st (fun _ z => z) d' v a2⟩
  · rw [eM]
    rcases other e1 with ⟨rfl, e⟩ | ⟨hj, e1⟩
    · cases e; exact ⟨a, ys, ha, h', r, nm, h0⟩
    · obtain ⟨b, zs, a1, a2, a3, a4⟩ := E.own j es e1
      exact ⟨b, zs, a1, s.st b _ a2 (fun z => by subst z; exact hj (E.inj i j b ds es hc e1 ha a1)) nt_lst, RepL.stp st (fun _ z => z) es zs a3, a4⟩
  · rw [eM]
    rcases other e1 with ⟨rfl, e⟩ | ⟨hj, e1⟩
    · cases e
    · obtain ⟨b, zs, a1, a2, a3, a4⟩ := E.io j es e1
      exact ⟨b, zs, a1, a2, s.st b _ a3 (fun z => by subst z; exact nm (E.aM b a2)) nt_lst, RepL.stp st (fun _ z => z) es zs a4⟩
  · rcases other e1 with ⟨rfl, e⟩ | ⟨_, e1⟩
    · rcases other e2 with ⟨rfl, _⟩ | ⟨_, e2⟩
      · rfl
      · exact E.inj i k b ds fs hc e2 e3 e4
    · rcases other e2 with ⟨rfl, e⟩ | ⟨_, e2⟩
      · exact E.inj j i b es ds e1 hc e3 e4
      · exact E.inj j k b es fs e1 e2 e3 e4
  · rcases other e1 with ⟨rfl, e⟩ | ⟨_, e1⟩
    · cases e
    · rcases other e2 with ⟨rfl, e⟩ | ⟨_, e2⟩
      · cases e
      · exact E.io1 j k es fs e1 e2
  · rcases other e1 with ⟨rfl, e⟩ | ⟨_, e1⟩
    · cases e
    · exact E.slf j C ns es e1
  · by_cases hj : i = j
    · subst hj; exact ⟨_, List.getElem?_set_self hi⟩
    · exact ⟨c, by rw [List.getElem?_set_ne hj]; exact e1⟩
  · rcases other e1 with ⟨rfl, e⟩ | ⟨_, e1⟩
    · cases e
    · exact ⟨es, e1⟩
theorem EnvR.setIo (E : EnvR K H0 M0 A env σ H) {i : Nat} {ds out : List D} {a : Addr} {ys : List V} (hc : env[i]? = some (some (Cell.io ds))) (ha : σ[i]? = some (some (V.ref a))) (s : Stp (fun x => x = a) H H') (h' : H' a = some (.lst ys))
    (r : RepL K H' (MM M0 env σ) out ys) : EnvR K H0 M0 A (env.set i (some (Cell.io out))) σ H' ∧ Sub σ env (env.set i (some (Cell.io out))) ∧ MM M0 (env.set i (some (Cell.io out))) σ = MM M0 env σ := by
  have hi : i < env.length := (List.getElem?_eq_some_iff.mp hc).1
  obtain ⟨a', xs, sa, Aa, q, l⟩ := E.io i ds hc
  rw [ha] at sa; cases sa
  have mutI : ∀ b, MutAt (env.set i (some (Cell.io out))) σ b ↔ MutAt env σ b := fun b => by
    constructor
    · rintro ⟨j, es, e1, e2⟩
      by_cases hj : i = j
      · subst hj; rw [List.getElem?_set_self hi] at e1; cases e1
      · rw [List.getElem?_set_ne hj] at e1; exact ⟨j, es, e1, e2⟩
    · rintro ⟨j, es, e1, e2⟩
      by_cases hj : i = j
      · subst hj; rw [hc] at e1; cases e1
      · exact ⟨j, es, by rw [List.getElem?_set_ne hj]; exact e1, e2⟩
  have eM : MM M0 (env.set i (some (Cell.io out))) σ = MM M0 env σ := by
    funext b
    exact propext ⟨fun z => z.elim .inl fun q => .inr ((mutI b).mp q), fun z => z.elim .inl fun q => .inr ((mutI b).mpr q)⟩
  have Ma : MM M0 env σ a := .inl (E.aM a Aa)
  have st : Stp (MM M0 env σ) H H' := s.weak fun x e => e ▸ Ma
  have other : ∀ {j c}, (env.set i (some (Cell.io out)))[j]? = some (some c) → (i = j ∧ c = .io out) ∨ (i ≠ j ∧ env[j]? = some (some c)) := fun {j c} e1 => by
    by_cases hj : i = j
    · subst hj; rw [List.getElem?_set_self hi] at e1; cases e1; exact .inl ⟨rfl, rfl⟩
    · rw [List.getElem?_set_ne hj] at e1; exact .inr ⟨hj, e1⟩
  refine ⟨⟨by rw [List.length_set]; exact E.len, fun b o e n t => ?_, fun b h => s.mo b (E.alive b h), fun P q h => s.tb P q h (E.tb P q h), fun b hb => s.mo b (E.m0 b hb), E.aM, E.a1, fun j d' e1 => ?_, fun j es e1 => ?_, fun j es e1 => ?_, fun j k b es fs e1 e2 e3 e4 => ?_, fun j k es fs e1 e2 => ?_, fun j C ns es e1 => ?_⟩, ⟨fun b z => (mutI b).mp z, fun j c e1 => ?_, fun j es e1 => ?_, List.length_set⟩, eM⟩
  · exact s.st b o (E.old b o e n t) (fun z => n (z ▸ Aa)) t
  · rw [eM]
    rcases other e1 with ⟨rfl, e⟩ | ⟨_, e1⟩
    · cases e
    · obtain ⟨v, a1, a2⟩ := E.dat j d' e1
      exact ⟨v, a1, Rep.stp st (fun _ z => z) d' v a2⟩
  · rw [eM]
    rcases other e1 with ⟨rfl, e⟩ | ⟨hj, e1⟩
    · cases e
    · obtain ⟨b, zs, a1, a2, a3, a4, a5⟩ := E.own j es e1
      exact ⟨b, zs, a1, s.st b _ a2 (fun z => by subst z; exact a4 (E.aM b Aa)) nt_lst, RepL.stp st (fun _ z => z) es zs a3, a4, a5⟩
  · rw [eM]
    rcases other e1 with ⟨rfl, e⟩ | ⟨hj, e1⟩
    · cases e; exact ⟨a, ys, ha, Aa, h', r⟩
    · exact absurd (E.io1 i j ds es hc e1) hj
  · rcases other e1 with ⟨rfl, e⟩ | ⟨_, e1⟩
    · cases e
    · rcases other e2 with ⟨rfl, e⟩ | ⟨_, e2⟩
      · cases e
      · exact E.inj j k b es fs e1 e2 e3 e4
  · rcases other e1 with ⟨rfl, e⟩ | ⟨_, e1⟩
    · rcases other e2 with ⟨rfl, _⟩ | ⟨_, e2⟩
      · rfl
      · exact E.io1 i k ds fs hc e2
    · rcases other e2 with ⟨rfl, e⟩ | ⟨_, e2⟩
      · exact E.io1 j i es ds e1 hc
      · exact E.io1 j k es fs e1 e2
  · rcases other e1 with ⟨rfl, e⟩ | ⟨_, e1⟩
    · cases e
    · exact E.slf j C ns es e1
  · by_cases hj : i = j
    · subst hj; exact ⟨_, List.getElem?_set_self hi⟩
    · exact ⟨c, by rw [List.getElem?_set_ne hj]; exact e1⟩
  · rcases other e1 with ⟨rfl, e⟩ | ⟨_, e1⟩
    · exact ⟨ds, hc⟩
    · exact ⟨es, e1⟩
end
variable (G : Ctx) (W : WX) (K : PySem.W.Frag)
def tI (i : IR) : TE := fun σ H Q => ∃ H0 M0 A env, EnvR K H0 M0 A env σ H ∧ Sat K H0 M0 A W (ev G i env) env σ H fun o e1 H1 => ∀ v, OpdR K M0 e1 σ H1 o v → Q v H1
def tIt (i : IR) : TT := fun σ H Q => ∃ H0 M0 A env, EnvR K H0 M0 A env σ H ∧ Sat K H0 M0 A W (truR (ev G i env)) env σ H fun b e1 H1 => Q b H1
def tIs (is : List IR) : TA := fun σ H Q => ∃ H0 M0 A env, EnvR K H0 M0 A env σ H ∧ Sat K H0 M0 A W (evs G is env) env σ H fun ds e1 H1 => ∀ vs, RepL K H1 (MM M0 e1 σ) ds vs → Q vs H1
def tIr (is : List IR) : TA := fun σ H Q => ∃ H0 M0 A env, EnvR K H0 M0 A env σ H ∧ Sat K H0 M0 A W (evr G is env) env σ H fun os e1 H1 => ∀ vs, Paired (OpdR K M0 e1 σ H1) os vs → Q vs H1
def tIo (i : Option IR) : TO := fun σ H Q => ∃ H0 M0 A env, EnvR K H0 M0 A env σ H ∧ Sat K H0 M0 A W (evo G i env) env σ H fun o e1 H1 => Q o H1
def tIa (io : Option Nat) (n : Nat) (is : List IR) : TA := fun σ H Q => ∃ H0 M0 A env, EnvR K H0 M0 A env σ H ∧ Sat K H0 M0 A W (eva G io n is env) env σ H fun p e1 H1 => ∀ vs, Paired (OpdR K M0 e1 σ H1) p.1 vs → Q vs H1
end Mp
set_option maxHeartbeats 4000000
namespace Mp
open PySem L2
variable [TabsW]
section
variable {X : Cx} {G : Ctx} {W : WX}
theorem PE.by_ {e : Expr} {t t' : TE} (h : PE X e t) (i : ∀ σ H Q, t' σ H Q → t σ H Q) : PE X e t' := ⟨fun pins s σ H Q I q => h.run pins s σ H Q I (i σ H Q q)⟩
theorem PT.by_ {e : Expr} {t t' : TT} (h : PT X e t) (i : ∀ σ H Q, t' σ H Q → t σ H Q) : PT X e t' := ⟨fun pins s σ H Q I q => h.run pins s σ H Q I (i σ H Q q)⟩
theorem PW.by_ {e : Expr} {t t' : TT} (h : PW X e t) (i : ∀ σ H Q, t' σ H Q → t σ H Q) : PW X e t' := ⟨fun wh pins s σ H Q I q => h.run wh pins s σ H Q I (i σ H Q q)⟩
theorem PA.by_ {e : List Expr} {t t' : TA} (h : PA X e t) (i : ∀ σ H Q, t' σ H Q → t σ H Q) : PA X e t' := ⟨fun pos pins s σ H Q I q => h.run pos pins s σ H Q I (i σ H Q q)⟩
theorem PO.by_ {e : Option Expr} {t t' : TO} (h : PO X e t) (i : ∀ σ H Q, t' σ H Q → t σ H Q) : PO X e t' := ⟨fun pins s σ H Q I q => h.run pins s σ H Q I (i σ H Q q)⟩
theorem Stp.no {M : AS} {H H' : Hp} (s : Stp NoA H H') : Stp M H H' := s.weak fun _ z => z.elim
/-- a constant -/
theorem e_c {e : Expr} {d : D} {v : V} (h : PE X e (tC v)) (r : ∀ H M, Rep X.K H M d v) : PE X e (tI G W X.K (.c d)) := PE.by_ h fun σ H Q q => by
  obtain ⟨H0, M0, A, env, E, q⟩ := q
  unfold ev at q
  exact q H Stp.refl Sub.refl E v (r H _)
theorem e_v {x : Str} {pos : Pos} {i : Nat} (hN : X.N[i]? = some x) (hv : Vis X.env.scope x) (hd : (x == ("__debug__" : Str)) = false) (hcd : (x == ("__classdict__" : Str)) = false) : PE X (.Name x pos) (tI G W X.K (.v i)) := PE.by_ (pe_var hN hv hd hcd) fun σ H Q q => by
  obtain ⟨H0, M0, A, env, E, q⟩ := q
  unfold ev at q
  cases e : env[i]? with
  | none =>
    have : cellAt env i = none := by unfold cellAt; rw [e]; rfl
    rw [this] at q
    exact q.elim
  | some o =>
    have hc : cellAt env i = o := by unfold cellAt; rw [e]; rfl
    rw [hc] at q
    cases o with
    | none => exact q.elim
    | some c =>
      cases c with
      | dat d =>
        obtain ⟨v, s, r⟩ := E.dat i d e
        exact ⟨v, s, q H Stp.refl Sub.refl E v r⟩
      | own ds =>
        obtain ⟨a, xs, s, r⟩ := E.own i ds e
        exact ⟨_, s, q H Stp.refl Sub.refl E _ ⟨s, _, e⟩⟩
      | io ds =>
        obtain ⟨a, xs, s, r⟩ := E.io i ds e
        exact ⟨_, s, q H Stp.refl Sub.refl E _ ⟨s, _, e⟩⟩
      | slf C ns ds => exact q.elim
/-- behind the operands of a two-place operation -/
theorem op_end {K : PySem.W.Frag} {H0 H : Hp} {M0 A : AS} {env : Env} {σ : L2.St} {Q : VK} {r : R2} {f : D → D → Option D} {x y : V} {o o2 : Opd} (hs : OpS K r f) (E : EnvR K H0 M0 A env σ H) (hx : OpdR K M0 env σ H o x) (hy : OpdR K M0 env σ H o2 y)
    (h : Sat K H0 M0 A W (match rdO env o, rdO env o2 with
      | some p, some q => lift env (f p q)
      | _, _ => .bad) env σ H fun o e1 H1 => ∀ v, OpdR K M0 e1 σ H1 o v → Q v H1) : r x y H Q := by
  cases e1 : rdO env o with
  | none => rw [e1] at h; exact h.elim
  | some p =>
    cases e2 : rdO env o2 with
    | none => rw [e1, e2] at h; exact h.elim
    | some q =>
      rw [e1, e2] at h
      cases e3 : f p q with
      | none =>
        dsimp only at h
        rw [e3] at h
        exact h.elim
      | some z =>
        dsimp only at h
        rw [e3] at h
        exact hs (MM M0 env σ) x y H p q z Q (hx.rdT E e1) (hy.rdT E e2) (fun a ha => (E.fresh ha).1) e3 fun v H' st rv => h H' st.no Sub.refl (E.keep st) v rv
theorem op_read {K : PySem.W.Frag} {a b : IR} {i : IR} {r : R2} {f : D → D → Option D} (hs : OpS K r f)
    (he : ∀ env, ev G i env = (ev G a env).bind fun x e1 => (ev G b e1).bind fun y e2 => match rdO e2 x, rdO e2 y with
      | some p, some q => lift e2 (f p q)
      | _, _ => .bad) {σ : L2.St} {H : Hp} {Q : VK} (q : tI G W K i σ H Q) : tOp r (tI G W K a) (tI G W K b) σ H Q := by
  obtain ⟨H0, M0, A, env, E, q⟩ := q
  rw [he] at q
  refine ⟨H0, M0, A, env, E, (Sat.bind q).mono fun o e1 H1 _ s1 u1 E1 h1 x hx => ?_⟩
  refine ⟨H0, M0, A, e1, E1, (Sat.bind h1).mono fun o2 e2 H2 _ s2 u2 E2 h2 y hy => ?_⟩
  exact op_end hs E2 (hx.hold E1.aM s2 u2) hy h2
theorem e_op {e : Expr} {a b : IR} {i : IR} {r : R2} {f : D → D → Option D} {ta tb : TE} (h : PE X e (tOp r (tI G W X.K a) (tI G W X.K b))) (hs : OpS X.K r f)
    (he : ∀ env, ev G i env = (ev G a env).bind fun x e1 => (ev G b e1).bind fun y e2 => match rdO e2 x, rdO e2 y with
      | some p, some q => lift e2 (f p q)
      | _, _ => .bad) : PE X e (tI G W X.K i) := PE.by_ h fun σ H Q q => op_read hs he q
theorem e_bin {a b : Expr} {op : Operator} {op' : BOp} {a' b' : IR} {r : R2} {pos : Pos} (ho : OpR X (binaryOp op) r) (hs : OpS X.K r (binD op')) (ha : PE X a (tI G W X.K a')) (hb : PE X b (tI G W X.K b')) : PE X (.BinOp a op b pos) (tI G W X.K (.bin op' a' b')) :=
  e_op (ta := tI G W X.K a') (tb := tI G W X.K b') (pe_op ho ha hb) hs fun env => by first | (rw [ev]; done) | (rw [ev]; rfl)
theorem e_cmp {a b : Expr} {op : CmpOp} {op' : COp} {a' b' : IR} {r : R2} {pos : Pos} (ho : OpR X (compareOp op) r) (hs : CmS X.K r op') (ha : PE X a (tI G W X.K a')) (hb : PE X b (tI G W X.K b')) (hm : behindInMarks op b = false) : PE X (.Compare a [op] [b] pos) (tI G W X.K (.cmp op' a' b')) :=
  e_op (ta := tI G W X.K a') (tb := tI G W X.K b') (pe_cmpR ho ha hb hm) hs fun env => by first | (rw [ev]; done) | (rw [ev]; rfl)
theorem e_ix {a b : Expr} {a' b' : IR} {pos : Pos} (ha : PE X a (tI G W X.K a')) (hb : PE X b (tI G W X.K b')) (hp : PlainIx b) : PE X (.Subscript a b pos) (tI G W X.K (.ix a' b')) :=
  e_op (ta := tI G W X.K a') (tb := tI G W X.K b') (pe_ix (r := rOr (rIxL X.K) (rIxT X.K)) (ix_list.or ix_tup) ha hb hp) s_ix fun env => by first | (rw [ev]; done) | (rw [ev]; rfl)
/-- a value tested -/
theorem tru_end {K : PySem.W.Frag} {H0 H : Hp} {M0 A : AS} {env : Env} {σ : L2.St} {o : Opd} {x : V} {b : Bool} (E : EnvR K H0 M0 A env σ H) (hx : OpdR K M0 env σ H o x) (h : (rdO env o).bind truD = some b) : TruV K x H b := by
  cases e1 : rdO env o with
  | none => rw [e1] at h; cases h
  | some p =>
    rw [e1] at h
    exact truV_of (hx.rdT E e1).loose h
/-- tests -/
theorem t_truth {a : Expr} {a' : IR} (ha : PE X a (tI G W X.K a')) (he : ∀ whole, isTrue a X.env whole = (do let v ← whole; standAt a.pos; holding [v] (truthy v))) : PT X a (tIt G W X.K a') := PT.by_ (pt_truth ha he) fun σ H Q q => by
  obtain ⟨H0, M0, A, env, E, q⟩ := q
  unfold truR at q
  refine ⟨H0, M0, A, env, E, (Sat.bind q).mono fun o e1 H1 _ s1 u1 E1 h1 x hx => ?_⟩
  cases e : (rdO e1 o).bind truD with
  | none => rw [e] at h1; exact h1.elim
  | some k =>
    rw [e] at h1
    exact ⟨k, tru_end E1 hx e, h1 H1 Stp.refl Sub.refl E1⟩
end
end Mp
set_option maxHeartbeats 4000000
namespace Mp
open PySem L2
variable [TabsW]
theorem R.bind_assoc {α β γ : Type} (r : R α) (f : α → Env → R β) (g : β → Env → R γ) : (r.bind f).bind g = r.bind fun a e => (f a e).bind g := by cases r <;> rfl
theorem tru_and {G : Ctx} {a b : IR} {env : Env} : truR (ev G (.and_ a b) env) = (truR (ev G a env)).bind fun c e1 => if c then truR (ev G b e1) else .ok false e1 := by
  rw [ev]
  unfold truR
  rw [R.bind_assoc, R.bind_assoc]
  congr 1
  funext x e1
  cases h : (rdO e1 x).bind truD with
  | none => rfl
  | some c =>
    cases c with
    | true => rfl
    | false =>
      show (match (rdO e1 x).bind truD with | some b => R.ok b e1 | none => R.bad) = _
      rw [h]; rfl
theorem tru_or {G : Ctx} {a b : IR} {env : Env} : truR (ev G (.or_ a b) env) = (truR (ev G a env)).bind fun c e1 => if c then .ok true e1 else truR (ev G b e1) := by
  rw [ev]
  unfold truR
  rw [R.bind_assoc, R.bind_assoc]
  congr 1
  funext x e1
  cases h : (rdO e1 x).bind truD with
  | none => rfl
  | some c =>
    cases c with
    | false => rfl
    | true =>
      show (match (rdO e1 x).bind truD with | some b => R.ok b e1 | none => R.bad) = _
      rw [h]; rfl
section
variable {X : Cx} {G : Ctx} {W : WX}
theorem w_and1 {a : Expr} {a' : IR} {pos : Pos} (ha : PT X a (tIt G W X.K a')) : PW X (.BoolOp .And [a] pos) (tIt G W X.K a') := pw_and1 ha
theorem w_or1 {a : Expr} {a' : IR} {pos : Pos} (ha : PT X a (tIt G W X.K a')) : PW X (.BoolOp .Or [a] pos) (tIt G W X.K a') := pw_or1 ha
theorem w_and {a b : Expr} {rest : List Expr} {a' b' : IR} {pos : Pos} (ha : PT X a (tIt G W X.K a')) (hb : PW X (.BoolOp .And (b :: rest) pos) (tIt G W X.K b')) : PW X (.BoolOp .And (a :: b :: rest) pos) (tIt G W X.K (.and_ a' b')) := PW.by_ (pw_and ha hb) fun σ H Q q => by
  obtain ⟨H0, M0, A, env, E, q⟩ := q
  rw [tru_and] at q
  refine ⟨H0, M0, A, env, E, (Sat.bind q).mono fun c e1 H1 _ s1 u1 E1 h1 => ?_⟩
  cases c with
  | true => exact ⟨H0, M0, A, e1, E1, h1⟩
  | false => exact h1 H1 Stp.refl Sub.refl E1
theorem w_or {a b : Expr} {rest : List Expr} {a' b' : IR} {pos : Pos} (ha : PT X a (tIt G W X.K a')) (hb : PW X (.BoolOp .Or (b :: rest) pos) (tIt G W X.K b')) : PW X (.BoolOp .Or (a :: b :: rest) pos) (tIt G W X.K (.or_ a' b')) := PW.by_ (pw_or ha hb) fun σ H Q q => by
  obtain ⟨H0, M0, A, env, E, q⟩ := q
  rw [tru_or] at q
  refine ⟨H0, M0, A, env, E, (Sat.bind q).mono fun c e1 H1 _ s1 u1 E1 h1 => ?_⟩
  cases c with
  | false => exact ⟨H0, M0, A, e1, E1, h1⟩
  | true => exact h1 H1 Stp.refl Sub.refl E1
/-- a value that is a truth, as a test -/
theorem tru_val {K : PySem.W.Frag} {i : IR} (hb : ∀ env o e1, ev G i env = .ok o e1 → ∃ k, o = .val (.bl k)) {σ : L2.St} {H : Hp} {Q : Bool → Hp → Prop} (q : tIt G W K i σ H Q) : tI G W K i σ H fun v H1 => ∃ k, v = .bl k ∧ Q k H1 := by
  obtain ⟨H0, M0, A, env, E, q⟩ := q
  refine ⟨H0, M0, A, env, E, ?_⟩
  cases e : ev G i env with
  | bad => rw [e] at q; exact q.elim
  | exc C f d e1 => rw [e] at q; exact q
  | ok o e1 =>
    obtain ⟨k, rfl⟩ := hb env o e1 e
    rw [e] at q
    intro H1 s1 u1 E1 v hv
    have hv' : Rep K H1 (MM M0 e1 σ) (.bl k) v := hv
    unfold Rep at hv'
    exact ⟨k, hv', q H1 s1 u1 E1⟩
theorem cmp_bool {op' : COp} {a' b' : IR} : ∀ env o e1, ev G (.cmp op' a' b') env = .ok o e1 → ∃ k, o = .val (.bl k) := fun env o e1 h => by
  rw [ev] at h
  cases h1 : ev G a' env with
  | bad => rw [h1] at h; cases h
  | exc C f d e => rw [h1] at h; cases h
  | ok x e2 =>
    rw [h1] at h
    have h : ((ev G b' e2).bind fun y e2 => match rdO e2 x, rdO e2 y with | some p, some q => lift e2 ((cmpD op' p q).map .bl) | _, _ => .bad) = .ok o e1 := h
    cases h2 : ev G b' e2 with
    | bad => rw [h2] at h; cases h
    | exc C f d e => rw [h2] at h; cases h
    | ok y e3 =>
      rw [h2] at h
      have h : (match rdO e3 x, rdO e3 y with | some p, some q => lift e3 ((cmpD op' p q).map .bl) | _, _ => .bad) = R.ok o e1 := h
      cases h3 : rdO e3 x with
      | none => rw [h3] at h; cases h
      | some p =>
        cases h4 : rdO e3 y with
        | none => rw [h3, h4] at h; cases h
        | some q =>
          rw [h3, h4] at h
          have h : lift e3 ((cmpD op' p q).map .bl) = R.ok o e1 := h
          cases h5 : cmpD op' p q with
          | none => rw [h5] at h; cases h
          | some k => rw [h5] at h; cases h; exact ⟨k, rfl⟩
theorem t_cmp {a b : Expr} {op : CmpOp} {op' : COp} {a' b' : IR} {r : R2} {pos : Pos} (ho : OpR X (compareOp op) r) (hs : CmS X.K r op') (ha : PE X a (tI G W X.K a')) (hb : PE X b (tI G W X.K b')) (hm : behindInMarks op b = false) : PT X (.Compare a [op] [b] pos) (tIt G W X.K (.cmp op' a' b')) :=
  PT.by_ (pt_cmpR ho ha hb hm) fun σ H Q q => op_read hs (fun env => by first | (rw [ev]; done) | (rw [ev]; rfl)) (tru_val cmp_bool q)
def starB : Expr → Bool
  | .Starred _ _ => true
  | _ => false
theorem star_cons {e : Expr} {es : List Expr} {env : PySem.Env} (h : starB e = false) : starEach (e :: es) env = (false, eval e env) :: starEach es env := by
  cases e <;> first | rfl | cases h
theorem star_none {pos : Pos} {env : PySem.Env} : ∀ {es : List Expr}, es.any starB = false → (backTo pos (starEach es env)).any (·.1) = false
  | [], _ => rfl
  | e :: es, h => by
    rw [List.any_cons, Bool.or_eq_false_iff] at h
    rw [star_cons h.1]
    show (false || (backTo pos (starEach es env)).any (·.1)) = false
    rw [star_none h.2] <;> rfl
theorem as_nil : PA X [] (tIs G W X.K []) := PA.by_ pa_nil fun σ H Q q => by
  obtain ⟨H0, M0, A, env, E, q⟩ := q
  rw [evs] at q
  exact q H Stp.refl Sub.refl E [] RepL.nil
theorem as_cons {e : Expr} {es : List Expr} {i : IR} {is : List IR} (ha : PE X e (tI G W X.K i)) (hr : PA X es (tIs G W X.K is)) (hs : starB e = false) : PA X (e :: es) (tIs G W X.K (i :: is)) := PA.by_ (pa_cons ha hr (star_cons hs)) fun σ H Q q => by
  obtain ⟨H0, M0, A, env, E, q⟩ := q
  rw [evs] at q
  unfold R.take at q
  rw [R.bind_assoc] at q
  refine ⟨H0, M0, A, env, E, (Sat.bind q).mono fun o e1 H1 _ s1 u1 E1 h1 x hx => ?_⟩
  cases e : takeO e1 o with
  | none => rw [e] at h1; exact h1.elim
  | some p =>
    obtain ⟨d, e2⟩ := p
    rw [e] at h1
    obtain ⟨E2, rd, u2⟩ := E1.take hx e
    have h2 : Sat X.K H0 M0 A W ((evs G is e2).bind fun ds e3 => .ok (d :: ds) e3) e1 σ H1 (fun ds e1 H1 => ∀ vs, RepL X.K H1 (MM M0 e1 σ) ds vs → Q vs H1) := h1
    have h3 : Sat X.K H0 M0 A W ((evs G is e2).bind fun ds e3 => .ok (d :: ds) e3) e2 σ H1 (fun ds e1 H1 => ∀ vs, RepL X.K H1 (MM M0 e1 σ) ds vs → Q vs H1) := h2.sub u2
    refine ⟨H0, M0, A, e2, E2, (Sat.bind h3).mono fun ds e3 H3 _ s3 u3 E3 h4 vs hv => ?_⟩
    exact h4 H3 Stp.refl Sub.refl E3 (x :: vs) (RepL.cons (hold rd E2.aM s3 u3) hv)
end
end Mp
set_option maxHeartbeats 4000000
namespace Mp
open PySem L2
variable [TabsW]
section
variable {X : Cx} {G : Ctx} {W : WX}
theorem ar_nil : PA X [] (tIr G W X.K []) := PA.by_ pa_nil fun σ H Q q => by
  obtain ⟨H0, M0, A, env, E, q⟩ := q
  rw [evr] at q
  exact q H Stp.refl Sub.refl E [] .nil
theorem ar_cons {e : Expr} {es : List Expr} {i : IR} {is : List IR} (ha : PE X e (tI G W X.K i)) (hr : PA X es (tIr G W X.K is)) (hs : starB e = false) : PA X (e :: es) (tIr G W X.K (i :: is)) := PA.by_ (pa_cons ha hr (star_cons hs)) fun σ H Q q => by
  obtain ⟨H0, M0, A, env, E, q⟩ := q
  rw [evr] at q
  refine ⟨H0, M0, A, env, E, (Sat.bind q).mono fun o e1 H1 _ s1 u1 E1 h1 x hx => ?_⟩
  refine ⟨H0, M0, A, e1, E1, (Sat.bind h1).mono fun os e2 H2 _ s2 u2 E2 h2 vs hv => ?_⟩
  exact h2 H2 Stp.refl Sub.refl E2 (x :: vs) (.cons (hx.hold E1.aM s2 u2) hv)
theorem aa_nil {io : Option Nat} {n : Nat} : PA X [] (tIa G W X.K io n []) := PA.by_ pa_nil fun σ H Q q => by
  obtain ⟨H0, M0, A, env, E, q⟩ := q
  rw [eva] at q
  exact q H Stp.refl Sub.refl E [] .nil
theorem aa_cons {e : Expr} {es : List Expr} {i : IR} {is : List IR} {io : Option Nat} {n : Nat} (ha : PE X e (tI G W X.K i)) (hr : PA X es (tIa G W X.K io (n + 1) is)) (hs : starB e = false) : PA X (e :: es) (tIa G W X.K io n (i :: is)) := PA.by_ (pa_cons ha hr (star_cons hs)) fun σ H Q q => by
  obtain ⟨H0, M0, A, env, E, q⟩ := q
  rw [eva] at q
  by_cases hio : io = some n
  · rw [if_pos hio] at q
    refine ⟨H0, M0, A, env, E, (Sat.bind q).mono fun o e1 H1 _ s1 u1 E1 h1 x hx => ?_⟩
    cases o with
    | val d => exact h1.elim
    | pl j =>
      refine ⟨H0, M0, A, e1, E1, (Sat.bind h1).mono fun p e2 H2 _ s2 u2 E2 h2 vs hv => ?_⟩
      exact h2 H2 Stp.refl Sub.refl E2 (x :: vs) (.cons (hx.hold E1.aM s2 u2) hv)
  · rw [if_neg hio] at q
    unfold R.take at q
    rw [R.bind_assoc] at q
    refine ⟨H0, M0, A, env, E, (Sat.bind q).mono fun o e1 H1 _ s1 u1 E1 h1 x hx => ?_⟩
    cases e : takeO e1 o with
    | none => rw [e] at h1; exact h1.elim
    | some p =>
      obtain ⟨d, e2⟩ := p
      rw [e] at h1
      obtain ⟨E2, rd, u2⟩ := E1.take hx e
      have h2 : Sat X.K H0 M0 A W ((eva G io (n + 1) is e2).bind fun p e3 => .ok (.val d :: p.1, p.2) e3) e1 σ H1 (fun p e1 H1 => ∀ vs, Paired (OpdR X.K M0 e1 σ H1) p.1 vs → Q vs H1) := h1
      refine ⟨H0, M0, A, e2, E2, (Sat.bind (h2.sub u2)).mono fun p e3 H3 _ s3 u3 E3 h4 vs hv => ?_⟩
      exact h4 H3 Stp.refl Sub.refl E3 (x :: vs) (.cons (show OpdR X.K M0 e3 σ H3 (.val d) x from hold rd E2.aM s3 u3) hv)
theorem po_none' : PO X none (tIo G W X.K none) := PO.by_ po_none fun σ H Q q => by
  obtain ⟨H0, M0, A, env, E, q⟩ := q
  rw [evo] at q
  exact q H Stp.refl Sub.refl E
theorem po_some' {e : Expr} {i : IR} (h : PE X e (tI G W X.K i)) : PO X (some e) (tIo G W X.K (some i)) := PO.by_ (po_some h) fun σ H Q q => by
  obtain ⟨H0, M0, A, env, E, q⟩ := q
  rw [evo] at q
  unfold R.rd at q
  rw [R.bind_assoc] at q
  refine ⟨H0, M0, A, env, E, (Sat.bind q).mono fun o e1 H1 _ s1 u1 E1 h1 x hx => ?_⟩
  cases e : rdO e1 o with
  | none => rw [e] at h1; exact h1.elim
  | some d =>
    rw [e] at h1
    cases d with
    | int k =>
      have := (hx.rdT E1 e).int
      exact ⟨k, this, h1 H1 Stp.refl Sub.refl E1⟩
    | _ => exact h1.elim
theorem e_tup {es : List Expr} {is : List IR} {k : Nat} {pos : Pos} (h : PA X es (tIs G W X.K is)) : PE X (.Tuple es k pos) (tI G W X.K (.tup is)) := PE.by_ (pe_tup h) fun σ H Q q => by
  obtain ⟨H0, M0, A, env, E, q⟩ := q
  rw [ev] at q
  refine ⟨H0, M0, A, env, E, (Sat.bind q).mono fun ds e1 H1 _ s1 u1 E1 h1 xs hx => ?_⟩
  have hs : sizeLine = 16777216 := sizeLine_eq
  by_cases hl : ds.length ≤ BIG
  · rw [if_pos hl] at h1
    refine ⟨by rw [← hx.length]; unfold BIG at hl; omega, fun p hp => ?_⟩
    exact h1 _ (Stp.new hp) Sub.refl (E1.new hp) _ (rep_newT hp (E1.fresh hp).1 hx)
  · rw [if_neg hl] at h1; exact h1.elim
theorem e_lst {es : List Expr} {is : List IR} {pos : Pos} (h : PA X es (tIs G W X.K is)) : PE X (.List es pos) (tI G W X.K (.lst is)) := PE.by_ (pe_lst h) fun σ H Q q => by
  obtain ⟨H0, M0, A, env, E, q⟩ := q
  rw [ev] at q
  refine ⟨H0, M0, A, env, E, (Sat.bind q).mono fun ds e1 H1 _ s1 u1 E1 h1 xs hx => ?_⟩
  have hs : sizeLine = 16777216 := sizeLine_eq
  by_cases hl : ds.length ≤ BIG
  · rw [if_pos hl] at h1
    refine ⟨by rw [← hx.length]; unfold BIG at hl; omega, fun p hp => ?_⟩
    exact h1 _ (Stp.new hp) Sub.refl (E1.new hp) _ (rep_new hp (E1.fresh hp).1 hx)
  · rw [if_neg hl] at h1; exact h1.elim
theorem RepL.cut {K : PySem.W.Frag} {H : Hp} {M : AS} {ds : List D} {xs : List V} (r : RepL K H M ds xs) (lo hi : Option Int) : RepL K H M (cutD ds lo hi) (cutV xs lo hi) := by
  unfold cutD cutV
  rw [r.length]
  exact (r.drop _).take _
theorem e_sl {a : Expr} {lo hi : Option Expr} {a' : IR} {lo' hi' : Option IR} {p2 pos : Pos} (ha : PE X a (tI G W X.K a')) (hl : PO X lo (tIo G W X.K lo')) (hh : PO X hi (tIo G W X.K hi')) : PE X (.Subscript a (.Slice lo hi none p2) pos) (tI G W X.K (.sl a' lo' hi')) := PE.by_ (pe_slice (SlR.or sl_list sl_tupA) ha hl hh) fun σ H Q q => by
  obtain ⟨H0, M0, A, env, E, q⟩ := q
  rw [ev] at q
  refine ⟨H0, M0, A, env, E, (Sat.bind q).mono fun o e1 H1 _ s1 u1 E1 h1 x hx => ?_⟩
  refine ⟨H0, M0, A, e1, E1, (Sat.bind h1).mono fun i e2 H2 _ s2 u2 E2 h2 => ?_⟩
  refine ⟨H0, M0, A, e2, E2, (Sat.bind h2).mono fun j e3 H3 _ s3 u3 E3 h3 => ?_⟩
  have hx3 := (hx.hold E1.aM s2 u2).hold E2.aM s3 u3
  cases e : rdO e3 o with
  | none => rw [e] at h3; exact h3.elim
  | some p =>
    rw [e] at h3
    cases p with
    | lst ds =>
      obtain ⟨b, xs, rfl, hr, rr⟩ := hx3.rdT E3 e
      exact .inl ⟨b, xs, rfl, hr, fun p hp => h3 _ (Stp.new hp) Sub.refl (E3.new hp) _ (rep_new hp (E3.fresh hp).1 (rr.cut i j))⟩
    | tup ds =>
      obtain ⟨b, xs, rfl, hr, rr, nM⟩ := hx3.rdT E3 e
      refine .inr ⟨b, xs, rfl, Rd.t hr, fun hw => ?_, fun _ p hp => h3 _ (Stp.new hp) Sub.refl (E3.new hp) _ (rep_newT hp (E3.fresh hp).1 (rr.cut i j))⟩
      have hl : xs.length = ds.length := rr.length.symm
      have hd : cutD ds i j = ds := by
        unfold cutD
        rw [← hl, hw.1, hw.2, List.drop_zero, Nat.sub_zero, hl, List.take_length]
      have h4 : ∀ v : V, OpdR X.K M0 e3 σ H3 (.val (.tup (cutD ds i j))) v → Q v H3 := h3 _ Stp.refl Sub.refl E3
      rw [hd] at h4
      refine h4 _ ?_
      unfold OpdR Rep
      exact ⟨b, xs, rfl, nM, hr, rr⟩
    | _ => exact h3.elim
theorem ops_rd {K : PySem.W.Frag} {H0 H : Hp} {M0 A : AS} {env : Env} {σ : L2.St} (E : EnvR K H0 M0 A env σ H) : ∀ {os : List Opd} {vs : List V} {ds : List D}, Paired (OpdR K M0 env σ H) os vs → os.mapM (rdO env) = some ds → Paired (RepT K H (MM M0 env σ)) ds vs
  | [], _, ds, .nil, e => by
    rw [List.mapM_nil] at e
    cases e; exact .nil
  | o :: os, _, ds, .cons r t, e => by
    rw [List.mapM_cons] at e
    cases e1 : rdO env o with
    | none => rw [e1] at e; cases e
    | some d =>
      cases e2 : os.mapM (rdO env) with
      | none => rw [e1, e2] at e; cases e
      | some ds' =>
        rw [e1, e2] at e
        cases e
        exact .cons (r.rdT E e1) (ops_rd E t e2)
theorem blt_read {K : PySem.W.Frag} {b : Blt} {is : List IR} {r : List V → Hp → VK → Prop} (hs : CaS K r (bltD b)) {σ : L2.St} {H : Hp} {Q : VK} (q : tI G W K (.blt b is) σ H Q) : tCB r (tIr G W K is) σ H Q := by
  obtain ⟨H0, M0, A, env, E, q⟩ := q
  rw [ev] at q
  refine ⟨H0, M0, A, env, E, (Sat.bind q).mono fun os e1 H1 _ s1 u1 E1 h1 xs hx => ?_⟩
  cases e : os.mapM (rdO e1) with
  | none => rw [e] at h1; exact h1.elim
  | some ds =>
    rw [e] at h1
    cases e2 : bltD b ds with
    | none => dsimp only at h1; rw [e2] at h1; exact h1.elim
    | some z =>
      dsimp only at h1
      rw [e2] at h1
      exact hs (MM M0 e1 σ) xs H1 ds z Q (ops_rd E1 hx e) (fun a ha => (E1.fresh ha).1) e2 fun v H' st rv => h1 H' st.no Sub.refl (E1.keep st) v rv
theorem e_bltF {e : Expr} {es : List Expr} {is : List IR} {b : Blt} {r : List V → Hp → VK → Prop} {x : Str} {id : String} {p pos : Pos} (hc : CallR X (.builtin id) r) (hs : CaS X.K r (bltD b)) (hg : Gl X x) (hm : X.mg x = none) (hv : bootBuiltins x = some (.builtin id))
    (ha : PA X (e :: es) (tIr G W X.K is)) (h1 : (e :: es).any starB = false) (hn : x ≠ "__name__") (hd : (x == ("__debug__" : Str)) = false) : PE X (.Call (.Name x p) (e :: es) [] pos) (tI G W X.K (.blt b is)) := by
  rw [List.any_cons, Bool.or_eq_false_iff] at h1
  exact PE.by_ (pe_callB hc hg hm hv ha hn hd (star_cons h1.1) (star_none h1.2)) fun σ H Q q => blt_read hs q
theorem e_bltT {e : Expr} {es : List Expr} {is : List IR} {b : Blt} {r : List V → Hp → VK → Prop} {x : Str} {id : String} {p pos : Pos} (hc : CallR X (.type id) r) (hs : CaS X.K r (bltD b)) (hg : Gl X x) (hm : X.mg x = none) (hv : bootBuiltins x = some (.type id))
    (ha : PA X (e :: es) (tIr G W X.K is)) (h1 : (e :: es).any starB = false) (hn : x ≠ "__name__") (hd : (x == ("__debug__" : Str)) = false) : PE X (.Call (.Name x p) (e :: es) [] pos) (tI G W X.K (.blt b is)) := by
  rw [List.any_cons, Bool.or_eq_false_iff] at h1
  exact PE.by_ (pe_callTy hc hg hm hv ha hn hd (star_cons h1.1) (star_none h1.2)) fun σ H Q q => blt_read hs q
end
end Mp
set_option maxHeartbeats 4000000
namespace Mp
open PySem L2
variable [TabsW]
/-- the slots handed over for change: what eva's second part says of the first -/
def IoOps (io : Option Nat) (n : Nat) (os : List Opd) (is : List Nat) : Prop :=
  (∀ (m i : Nat), os[m]? = some (.pl i) → io = some (n + m)) ∧ (∀ (m : Nat), io = some (n + m) → m < os.length → ∃ i, os[m]? = some (.pl i) ∧ is = [i]) ∧ (∀ i ∈ is, ∃ m, io = some (n + m) ∧ m < os.length)
theorem eva_ops (G : Ctx) (io : Option Nat) : ∀ (es : List IR) (n : Nat) (env : Env) (p : List Opd × List Nat) (e1 : Env), eva G io n es env = .ok p e1 → IoOps io n p.1 p.2 ∧ ((∀ m, io = some m → m < n) → p.2 = [])
  | [], n, env, p, e1, h => by
    rw [eva] at h
    cases h
    exact ⟨⟨fun m i e => by simp at e, fun m _ hl => by simp at hl, fun i hi => by simp at hi⟩, fun _ => rfl⟩
  | e :: es, n, env, p, e1, h => by
    rw [eva] at h
    by_cases hio : io = some n
    · rw [if_pos hio] at h
      cases h1 : ev G e env with
      | bad => rw [h1] at h; cases h
      | exc C f d e2 => rw [h1] at h; cases h
      | ok o e2 =>
        rw [h1] at h
        cases o with
        | val d => cases h
        | pl i =>
          have h : ((eva G io (n + 1) es e2).bind fun p e2 => R.ok (Opd.pl i :: p.1, i :: p.2) e2) = .ok p e1 := h
          cases h2 : eva G io (n + 1) es e2 with
          | bad => rw [h2] at h; cases h
          | exc C f d e3 => rw [h2] at h; cases h
          | ok q e3 =>
            rw [h2] at h
            cases h
            obtain ⟨⟨a, b, c⟩, d⟩ := eva_ops G io es (n + 1) e2 q _ h2
            have hq : q.2 = [] := d fun m hm => by rw [hio] at hm; cases hm; omega
            refine ⟨⟨fun m j e => ?_, fun m hm hl => ?_, fun j hj => ⟨0, hio, by simp⟩⟩, fun z => ?_⟩
            · cases m with
              | zero => exact hio
              | succ m =>
                have := a m j (by simpa using e)
                rw [this]; congr 1; omega
            · have : m = 0 := by rw [hio] at hm; injection hm with hm; omega
              subst this
              exact ⟨i, rfl, by rw [hq]⟩
            · have := z n hio; omega
    · rw [if_neg hio] at h
      cases h1 : (ev G e env).take with
      | bad => rw [h1] at h; cases h
      | exc C f d e2 => rw [h1] at h; cases h
      | ok d e2 =>
        rw [h1] at h
        have h : ((eva G io (n + 1) es e2).bind fun p e2 => R.ok (Opd.val d :: p.1, p.2) e2) = .ok p e1 := h
        cases h2 : eva G io (n + 1) es e2 with
        | bad => rw [h2] at h; cases h
        | exc C f d e3 => rw [h2] at h; cases h
        | ok q e3 =>
          rw [h2] at h
          cases h
          obtain ⟨⟨a, b, c⟩, d'⟩ := eva_ops G io es (n + 1) e2 q _ h2
          refine ⟨⟨fun m j e => ?_, fun m hm hl => ?_, fun j hj => let ⟨m, a1, a2⟩ := c j hj; ⟨m + 1, by rw [a1]; congr 1; omega, by simpa using a2⟩⟩, fun z => d' fun m hm => by have := z m hm; omega⟩
          · cases m with
            | zero => simp at e
            | succ m =>
              have := a m j (by simpa using e)
              rw [this]; congr 1; omega
          · cases m with
            | zero => exact absurd hm hio
            | succ m =>
              have hl' : m < q.1.length := by simpa using hl
              obtain ⟨i, e1, e2⟩ := b m (by rw [hm]; congr 1; omega) hl'
              exact ⟨i, by simpa using e1, e2⟩
theorem Paired.get {α β : Type} {F : α → β → Prop} : ∀ {xs : List α} {ys : List β} {i : Nat} {x : α} {y : β}, Paired F xs ys → xs[i]? = some x → ys[i]? = some y → F x y
  | _, _, _, _, _, .nil, h, _ => by simp at h
  | _, _, 0, _, _, .cons r _, h1, h2 => by simp at h1 h2; subst h1; subst h2; exact r
  | _, _, i + 1, _, _, .cons _ t, h1, h2 => Paired.get (i := i) t (by simpa using h1) (by simpa using h2)
theorem mapM_get {env : Env} : ∀ {os : List Opd} {ds : List D} {i : Nat} {d : D}, os.mapM (rdO env) = some ds → ds[i]? = some d → ∃ o, os[i]? = some o ∧ rdO env o = some d
  | [], ds, i, d, h, e => by
    rw [List.mapM_nil] at h; cases h; simp at e
  | o :: os, ds, i, d, h, e => by
    rw [List.mapM_cons] at h
    cases e1 : rdO env o with
    | none => rw [e1] at h; cases h
    | some d' =>
      cases e2 : os.mapM (rdO env) with
      | none => rw [e1, e2] at h; cases h
      | some ds' =>
        rw [e1, e2] at h
        cases h
        cases i with
        | zero => simp at e; subst e; exact ⟨o, rfl, e1⟩
        | succ i =>
          obtain ⟨o', a, b⟩ := mapM_get (i := i) e2 (by simpa using e)
          exact ⟨o', by simpa using a, b⟩
theorem mapM_len {env : Env} : ∀ {os : List Opd} {ds : List D}, os.mapM (rdO env) = some ds → ds.length = os.length
  | [], ds, h => by rw [List.mapM_nil] at h; cases h; rfl
  | o :: os, ds, h => by
    rw [List.mapM_cons] at h
    cases e1 : rdO env o with
    | none => rw [e1] at h; cases h
    | some d' =>
      cases e2 : os.mapM (rdO env) with
      | none => rw [e1, e2] at h; cases h
      | some ds' =>
        rw [e1, e2] at h
        cases h
        simp [mapM_len e2]
section
variable {X : Cx} {G : Ctx} {W : WX}
/-- a call's end: what the def promises is what frR says -/
theorem call_end {K : PySem.W.Frag} {H0 H : Hp} {M0 A : AS} {env : Env} {σ : L2.St} {Q : VK} {n : Nat} {io : Option Nat} {F : List D → FR} {os : List Opd} {is : List Nat} {ds : List D} {vs : List V} (E : EnvR K H0 M0 A env σ H) (hv : Paired (OpdR K M0 env σ H) os vs) (hn : vs.length = n)
    (hi : IoOps io 0 os is) (hm : os.mapM (rdO env) = some ds) (h : Sat K H0 M0 A W (frR env io is (F ds)) env σ H fun o e1 H1 => ∀ v, OpdR K M0 e1 σ H1 o v → Q v H1) : spF K n io F vs H Q (WE W σ) := by
  have lv : os.length = vs.length := Paired.length hv
  -- no one is handed over
  have none_case : io = none → spF K n io F vs H Q (WE W σ) := fun z => by
    subst z
    refine ⟨hn, MM M0 env σ, ds, E.mok, ⟨by rw [mapM_len hm, lv], fun i d v e1 e2 => ⟨fun _ => ?_, fun z => nomatch z⟩⟩, ?_⟩
    · obtain ⟨o, o1, o2⟩ := mapM_get hm e1
      have r := Paired.get hv o1 e2
      cases o with
      | pl j => exact nomatch hi.1 i j o1
      | val d' => cases o2; exact r
    · cases e : F ds with
      | bad => rw [e] at h; exact h.elim
      | ok d out =>
        rw [e] at h
        intro v H' st _ rv
        have st' : Stp NoA H H' := st.weak fun a ⟨i, z, _⟩ => nomatch z
        exact h H' st'.no Sub.refl (E.keep st') v rv
      | exc C f d out =>
        rw [e] at h
        intro dd v H' st _ hd rv
        have st' : Stp NoA H H' := st.weak fun a ⟨i, z, _⟩ => nomatch z
        exact h dd v H' st'.no Sub.refl (E.keep st') hd rv
  cases hio : io with
  | none => rw [hio] at none_case; exact none_case rfl
  | some m =>
    subst hio
    -- the slot that is handed over
    have slot : ∃ i, is = [i] := by
      cases e : F ds with
      | bad => rw [e] at h; exact h.elim
      | ok d out =>
        rw [e] at h
        match is, h with
        | [i], _ => exact ⟨i, rfl⟩
        | [], h => exact h.elim
        | _ :: _ :: _, h => exact h.elim
      | exc C f d out =>
        rw [e] at h
        match is, h with
        | [i], _ => exact ⟨i, rfl⟩
        | [], h => exact h.elim
        | _ :: _ :: _, h => exact h.elim
    obtain ⟨i, rfl⟩ := slot
    by_cases hml : m < os.length
    · obtain ⟨i', om, ei⟩ := hi.2.1 m (by rw [Nat.zero_add]) hml
      cases ei
      obtain ⟨v, hvm⟩ : ∃ v, vs[m]? = some v := ⟨vs[m]'(by omega), List.getElem?_eq_getElem (by omega)⟩
      obtain ⟨sv, c, hc⟩ := Paired.get hv om hvm
      have hcell : cellAt env i = some c := by unfold cellAt; rw [hc]; rfl
      -- its cell is ours or handed to us
      have key : ∃ (a : Addr) (xs : List V) (es : List D), v = .ref a ∧ MM M0 env σ a ∧ H a = some (.lst xs) ∧ RepL K H (MM M0 env σ) es xs ∧ content c = .lst es ∧
          (∀ (out : List D) (ys : List V) (H' : Hp), Stp (fun x => x = a) H H' → H' a = some (.lst ys) → RepL K H' (MM M0 env σ) out ys → ∃ env', EnvR K H0 M0 A env' σ H' ∧ Sub σ env env' ∧ MM M0 env' σ = MM M0 env σ ∧ WW A env σ a ∧
            (∀ d, frR env (some m) [i] (.ok d out) = .ok (.val d) env') ∧ ∀ C f d, frR env (some m) [i] (.exc C f d out) = .exc C f d env') := by
        cases c with
        | dat d =>
          exfalso
          cases e : F ds with
          | bad => rw [e] at h; exact h.elim
          | ok d' out => rw [e] at h; unfold frR at h; dsimp only at h; rw [hcell] at h; exact h.elim
          | exc C f d' out => rw [e] at h; unfold frR at h; dsimp only at h; rw [hcell] at h; exact h.elim
        | slf C ns es => exact absurd hc (fun q => E.slf i C ns es q)
        | own es =>
          obtain ⟨a, xs, s, q, l, nm, h0⟩ := E.own i es hc
          rw [sv] at s; cases s
          refine ⟨a, xs, es, rfl, .inr ⟨i, es, hc, sv⟩, q, l, rfl, fun out ys H' st h' rr => ?_⟩
          obtain ⟨E', u, eM⟩ := E.setOwn hc sv st h' rr
          refine ⟨_, E', u, eM, .inr ⟨i, es, hc, sv⟩, fun d => ?_, fun C f d => ?_⟩
          · unfold frR; dsimp only; rw [hcell]
          · unfold frR; dsimp only; rw [hcell]
        | io es =>
          obtain ⟨a, xs, s, Aa, q, l⟩ := E.io i es hc
          rw [sv] at s; cases s
          refine ⟨a, xs, es, rfl, .inl (E.aM a Aa), q, l, rfl, fun out ys H' st h' rr => ?_⟩
          obtain ⟨E', u, eM⟩ := E.setIo hc sv st h' rr
          refine ⟨_, E', u, eM, .inl Aa, fun d => ?_, fun C f d => ?_⟩
          · unfold frR; dsimp only; rw [hcell]
          · unfold frR; dsimp only; rw [hcell]
      obtain ⟨a, xs, es, rfl, Ma, ha, l, hcont, go⟩ := key
      refine ⟨hn, MM M0 env σ, ds, E.mok, ⟨by rw [mapM_len hm, lv], fun j d w e1 e2 => ?_⟩, ?_⟩
      · obtain ⟨o, o1, o2⟩ := mapM_get hm e1
        have r := Paired.get hv o1 e2
        refine ⟨fun z => ?_, fun z => ?_⟩
        · cases o with
          | pl k =>
            have := hi.1 j k o1
            rw [Nat.zero_add] at this
            exact absurd this z
          | val d' => cases o2; exact r
        · cases z
          rw [om] at o1; cases o1
          rw [hvm] at e2; cases e2
          have : (cellAt env i).map content = some d := o2
          rw [hcell] at this
          rw [Option.map_some, hcont] at this
          cases this
          exact ⟨a, xs, es, rfl, rfl, Ma, ha, l⟩
      · have ioA : ∀ x, IoA (some m) vs x → x = a := fun x ⟨j, z, q⟩ => by
          cases z; rw [hvm] at q; cases q; rfl
        cases e : F ds with
        | bad => rw [e] at h; exact h.elim
        | ok d out =>
          rw [e] at h
          intro v H' st ot rv
          obtain ⟨a', ys, q1, q2, q3⟩ := ot m rfl
          rw [hvm] at q1; cases q1
          obtain ⟨env', E', u, eM, wa, f1, _⟩ := go out ys H' (st.weak ioA) q2 q3
          rw [f1] at h
          exact h H' (st.weak fun x z => ioA x z ▸ wa) u E' v (by show Rep K H' (MM M0 env' σ) d v; rw [eM]; exact rv)
        | exc C f d out =>
          rw [e] at h
          intro dd v H' st ot hd rv
          obtain ⟨a', ys, q1, q2, q3⟩ := ot m rfl
          rw [hvm] at q1; cases q1
          obtain ⟨env', E', u, eM, wa, _, f2⟩ := go out ys H' (st.weak ioA) q2 q3
          rw [f2] at h
          exact h dd v H' (st.weak fun x z => ioA x z ▸ wa) u E' hd (by rw [eM]; exact rv)
    · exfalso
      obtain ⟨m', a1, a2⟩ := hi.2.2 i (by simp)
      rw [Nat.zero_add] at a1
      cases a1
      exact hml a2
end
end Mp
set_option maxHeartbeats 4000000
namespace Mp
open PySem L2 PyProof.Rows
/-- whether it is known that no repr is under way -/
class GdW where
  gd : Prop
variable [TabsW] [GdW]
/-- room for so many calls, where no repr is under way -/
structure Room (k : Nat) (A : Around) : Prop where
  r : L2.Room k A
  g : GdW.gd → A.guards = some []
theorem Room.mono {j k : Nat} {A : Around} (h : Room k A) (l : j ≤ k) : Room j A := ⟨h.r.mono l, h.g⟩
theorem Room.make {k : Nat} {A : Around} (h : Room (k + 1) A) (C : Addr) (us : List Value) (kw : List (Str × Value)) : Room k (A.under (.builtin "type.__call__" ⟨.ref C :: us, kw⟩)) := by
  refine ⟨h.r.make C us kw, fun z => ?_⟩
  have e : Code.guards (.builtin "type.__call__" ⟨.ref C :: us, kw⟩) = [] := rfl
  show pushGuards (Code.guards (.builtin "type.__call__" ⟨.ref C :: us, kw⟩)) A.guards = some []
  rw [e, h.g z]
  rfl
/-- what a def is worth where no repr is under way -/
structure FnOk (P : Program) (w : World) (K : PySem.W.Frag) (mg : Str → Option Value) (base : Heap) (CX : CXT) (k : Nat) (f : Addr) (fd : FuncData) (ps : List Str) (sp : Sp) : Prop where
  len : ∀ vs H Q E, sp vs H Q E → vs.length = ps.length
  go : ∀ (A : Around) (out : List PySem.Env) (s : Shared) (H : Hp) (args : Args) (us : List Value) (vs : List V) (Q : VK) (E : XK), Room k A → Env0 P w K mg base A out s H → BindsTo s fd args (ps.zip us) → Vals vs us → sp vs H Q E → codeAny (model P w) A (.call (.ref f) args) (CR CX out P w H s Q E) s
/-- THE RULE for a def by its text -/
theorem fn_text {CX : CXT} {P : Program} {w : World} {K : PySem.W.Frag} {mg : Str → Option Value} {base : Heap} {k : Nat} {f : Addr} {nm qn : Str} {par : Arguments} {bd : List Stmt} {sc : Scope} {dV kV doc pm cdv ct oc : Value} {an od : Option Addr} {osl : Array (Option Value)} {N ps : List Str} {sp : Sp}
    (lk : K.lookup f = some ⟨oc, od, .func (PySem.W.fnOf nm qn par bd sc dV kV doc pm an cdv ct), osl⟩) (hcd : PySem.W.codeIn K cdv qn = true) (S : FnScope N ps sc) (len : ∀ vs H Q E, sp vs H Q E → vs.length = ps.length)
    (bod : ∀ (A : Around) (out : List PySem.Env) (s : Shared) (H : Hp) (vs : List V) (Q : VK) (E : XK), Room k (A.deeper (envOfC qn sc s.heap.objs.size f cdv)) → sp vs H Q E → ∃ t, PSs (cxOf CX P w K mg base N qn sc f cdv A out s H E) bd t ∧ t { nx := fun _ H' => Q .non H', rt := Q } (L2.start N vs) H) :
    FnOk P w K mg base CX (k + 1) f (PySem.W.fnOf nm qn par bd sc dV kV doc pm an cdv ct) ps sp :=
  ⟨len, fun A out s H args us vs Q E hr e0 hb r h => LamX.run_ofS lk hcd S hr.r e0 hb r (len _ _ _ _ h) fun hr' => bod A out s H vs Q E ⟨hr', hr.g⟩ h⟩
theorem fun_okX {P : Program} {w : World} {K : PySem.W.Frag} {mg : Str → Option Value} {base : Heap} {x qn : Str} {st : Stmt} {f : Addr} {fd : FuncData} {N ps : List Str} {k : Nat} {sp : Sp} (F : Fun K x qn st f fd) (S : FnScope N ps (defScope st)) (len : ∀ vs H Q E, sp vs H Q E → vs.length = ps.length)
    (bod : ∀ (cdv : Value) (A : Around) (out : List PySem.Env) (s : Shared) (H : Hp) (vs : List V) (Q : VK) (E : XK), Room k (A.deeper (envOfC qn (defScope st) s.heap.objs.size f cdv)) → sp vs H Q E →
      ∃ t, PSs (cxOf (L2.CX P w) P w K mg base N qn (defScope st) f cdv A out s H E) (defBody st) t ∧ t { nx := fun _ H' => Q .non H', rt := Q } (L2.start N vs) H) : FnOk P w K mg base (L2.CX P w) (k + 1) f fd ps sp := by
  obtain ⟨oc, od, kV, doc, pm, an, cdv, ct, osl, rfl, lk, hcd⟩ := F.ex
  exact fn_text lk hcd S len fun A out s H vs Q E hr h => bod cdv A out s H vs Q E hr h
section
variable {X : Cx} {CX : CXT} {k : Nat} {f : Addr} {fd : FuncData} {ps : List Str} {sp : Sp} {ds : List Value} {dvs : List V} {E : L2.St → XK}
theorem run_fnSD {pins : List (Addr × Obj)} {τ : L2.St} {H : Hp} {s : Shared} {Q : VK} {us : List Value} {vs : List V} (F : FnOk X.prog X.w X.K X.mg X.base CX k f fd ps sp) (room : Room k X.A) (bi : Binds X.K fd ps ds) (dv : Vals dvs ds) (pa : PassesAt CX X τ (E τ))
    (I : Inv X pins τ H s) (r : Vals vs us) (want : sp (vs ++ dvs) H Q (E τ)) : wpAny (model X.prog X.w) X.A (call (.ref f) us) (EP X pins τ Q) X.xe s := by
  have rr : Vals (vs ++ dvs) (us ++ ds) := r.append dv
  have many : (us ++ ds).length = ps.length := rr.length.symm.trans (F.len _ _ _ _ want)
  refine wpAny_call (codeAny_mono (F.go _ X.stack _ _ ⟨us, []⟩ _ _ _ (E τ) room I.env0 (bi _ us I.kIn many) rr want) fun res s' got => ?_)
  match res, got with
  | .error e, got => exact pa pins _ _ e s' I got
  | .ok (.ret u), got => exact I.after got
  | .ok .next, got => exact got.elim
  | .ok .brk, got => exact got.elim
  | .ok .cont, got => exact got.elim
theorem pe_callSD {x : Str} {e : Expr} {es : List Expr} {t : TA} {p pos : Pos} (F : FnOk X.prog X.w X.K X.mg X.base CX k f fd ps sp) (room : Room k X.A) (hg : Gl X x) (hm : X.mg x = some (.ref f)) (hk : PySem.W.keepIn X.K (.ref f) = true) (bi : Binds X.K fd ps ds) (dv : Vals dvs ds) (pa : ∀ τ, PassesAt CX X τ (E τ))
    (ha : PA X (e :: es) t) (dbg : (x == ("__debug__" : Str)) = false) (h1 : starEach (e :: es) X.env = (false, eval e X.env) :: starEach es X.env) (h2 : (backTo pos (starEach es X.env)).any (·.1) = false) : PE X (.Call (.Name x p) (e :: es) [] pos) (tCallSD sp dvs E t) := by
  refine ⟨fun pins s τ H Q I h => wpAny_Call_Name_kw (ld_glob I hg hm ?_ dbg)⟩
  exact PySem.W.callWith_K (h₀ := X.base) I.ok.mod.kin hk (thn (ha.run pos pins s τ H _ I h) fun us s1 ⟨vs, H1, I1, r, q⟩ => ⟨I1.kIn, run_fnSD F room bi dv (pa τ) I1 r q⟩) h1 h2
end
/-- a def that may be called by a name: n arguments written, more by defaults -/
structure FnF (P : Program) (w : World) (K : PySem.W.Frag) (mg : Str → Option Value) (base : Heap) (k : Nat) (x : Str) (f : Fn) : Prop where
  dbg : (x == ("__debug__" : Str)) = false
  ex : ∃ (a : Addr) (fd : FuncData) (ps : List Str) (sp : Sp) (ds : List Value) (dvs : List V), mg x = some (.ref a) ∧ PySem.W.keepIn K (.ref a) = true ∧ FnOk P w K mg base (L2.CX P w) k a fd ps sp ∧ Binds K fd ps ds ∧ Vals dvs ds ∧
    ∀ vs H Q E, spF K f.n f.io f.sem vs H Q E → sp (vs ++ dvs) H Q E
section
variable {X : Cx} {G : Ctx} {W : WX}
theorem call_read {K : PySem.W.Frag} {j : Nat} {f : Fn} {is : List IR} {sp : Sp} {dvs : List V} (hj : G.fns[j]? = some f) (hs : ∀ vs H Q E, spF K f.n f.io f.sem vs H Q E → sp (vs ++ dvs) H Q E) {σ : L2.St} {H : Hp} {Q : VK} (q : tI G W K (.call j is) σ H Q) :
    tCallSD sp dvs (WE W) (tIa G W K f.io 0 is) σ H Q := by
  obtain ⟨H0, M0, A, env, E, q⟩ := q
  rw [ev, hj] at q
  dsimp only at q
  by_cases hl : is.length = f.n
  · rw [if_pos hl] at q
    refine ⟨H0, M0, A, env, E, (Sat.bind q).mono fun p e1 H1 he s1 u1 E1 h1 vs hv => ?_⟩
    refine hs vs H1 Q _ ?_
    obtain ⟨hi, _⟩ := eva_ops G f.io is 0 env p e1 he
    cases e : p.1.mapM (rdO e1) with
    | none => rw [e] at h1; exact h1.elim
    | some ds =>
      rw [e] at h1
      have ln : vs.length = f.n := by
        rw [← Paired.length hv]
        have := eva_len G f.io is 0 env p e1 he
        rw [this]; exact hl
      exact call_end E1 hv ln hi e h1
  · rw [if_neg hl] at q
    exact q.elim
where
  eva_len (G : Ctx) (io : Option Nat) : ∀ (es : List IR) (n : Nat) (env : Env) (p : List Opd × List Nat) (e1 : Env), eva G io n es env = .ok p e1 → p.1.length = es.length
  | [], n, env, p, e1, h => by rw [eva] at h; cases h; rfl
  | e :: es, n, env, p, e1, h => by
    rw [eva] at h
    by_cases hio : io = some n
    · rw [if_pos hio] at h
      cases h1 : ev G e env with
      | bad => rw [h1] at h; cases h
      | exc C f d e2 => rw [h1] at h; cases h
      | ok o e2 =>
        rw [h1] at h
        cases o with
        | val d => cases h
        | pl i =>
          have h : ((eva G io (n + 1) es e2).bind fun p e2 => R.ok (Opd.pl i :: p.1, i :: p.2) e2) = .ok p e1 := h
          cases h2 : eva G io (n + 1) es e2 with
          | bad => rw [h2] at h; cases h
          | exc C f d e3 => rw [h2] at h; cases h
          | ok q e3 =>
            rw [h2] at h
            cases h
            simp [eva_len G io es (n + 1) e2 q _ h2]
    · rw [if_neg hio] at h
      cases h1 : (ev G e env).take with
      | bad => rw [h1] at h; cases h
      | exc C f d e2 => rw [h1] at h; cases h
      | ok d e2 =>
        rw [h1] at h
        have h : ((eva G io (n + 1) es e2).bind fun p e2 => R.ok (Opd.val d :: p.1, p.2) e2) = .ok p e1 := h
        cases h2 : eva G io (n + 1) es e2 with
        | bad => rw [h2] at h; cases h
        | exc C f d e3 => rw [h2] at h; cases h
        | ok q e3 =>
          rw [h2] at h
          cases h
          simp [eva_len G io es (n + 1) e2 q _ h2]
theorem e_call {k j : Nat} {f : Fn} {x : Str} {e : Expr} {es : List Expr} {is : List IR} {p pos : Pos} (F : FnF X.prog X.w X.K X.mg X.base k x f) (hj : G.fns[j]? = some f) (hr : Room k X.A) (tk : Takes X W) (hg : Gl X x) (ha : PA X (e :: es) (tIa G W X.K f.io 0 is)) (h1 : (e :: es).any starB = false) :
    PE X (.Call (.Name x p) (e :: es) [] pos) (tI G W X.K (.call j is)) := by
  rw [List.any_cons, Bool.or_eq_false_iff] at h1
  obtain ⟨a, fd, ps, sp, ds, dvs, hm, hk, ok, hb, hd, hs⟩ := F.ex
  exact PE.by_ (pe_callSD ok hr hg hm hk hb hd (fun σ => passAt tk σ) ha F.dbg (star_cons h1.1) (star_none h1.2)) fun σ H Q q => call_read hj hs q
theorem evs_len (G : Ctx) : ∀ (es : List IR) (env : Env) (p : List D) (e1 : Env), evs G es env = .ok p e1 → p.length = es.length
  | [], env, p, e1, h => by rw [evs] at h; cases h; rfl
  | e :: es, env, p, e1, h => by
    rw [evs] at h
    cases h1 : (ev G e env).take with
    | bad => rw [h1] at h; cases h
    | exc C f d e2 => rw [h1] at h; cases h
    | ok d e2 =>
      rw [h1] at h
      have h : ((evs G es e2).bind fun ds e2 => R.ok (d :: ds) e2) = .ok p e1 := h
      cases h2 : evs G es e2 with
      | bad => rw [h2] at h; cases h
      | exc C f d e3 => rw [h2] at h; cases h
      | ok q e3 =>
        rw [h2] at h
        cases h
        simp [evs_len G es e2 q _ h2]
end
end Mp
set_option maxHeartbeats 4000000
set_option maxHeartbeats 4000000
set_option maxHeartbeats 4000000
set_option maxHeartbeats 4000000
namespace Mp
open PySem L2
variable [TabsW] [GdW]
/-- J goes through ds, while what was tracked at H1 outside S stands -/
def Goes (K : PySem.W.Frag) (M S : AS) (H1 : Hp) (J : L2.It) (ds : List D) : Prop := ∃ (Gd : Hp → Prop) (Y : Nat → Hp → V → Hp → Prop), Walk J ds.length Gd Y ∧ (∀ H', Stp S H1 H' → Gd H') ∧
  ∀ i H x H' (M' : AS), i < ds.length → Stp S H1 H → (∀ a, M' a → (M a ∨ ¬ Lv H1 a) ∧ Lv H a) → Y i H x H' → Stp NoA H H' ∧ ∃ d, ds[i]? = some d ∧ Rep K H' M' d x
theorem Goes.weak {K : PySem.W.Frag} {M S S' : AS} {H1 : Hp} {J : L2.It} {ds : List D} (g : Goes K M S H1 J ds) (h : ∀ a, S' a → S a) : Goes K M S' H1 J ds := by
  obtain ⟨Gd, Y, wk, h1, h2⟩ := g
  exact ⟨Gd, Y, wk, fun H' s => h1 H' (s.weak h), fun i H x H' M' hi s hM y => h2 i H x H' M' hi (s.weak h) hM y⟩
theorem PI.by_ {X : Cx} {tg e : Expr} {t t' : TI} (h : PI X tg e t) (i : ∀ σ H Q, t' σ H Q → t σ H Q) : PI X tg e t' := ⟨fun pins s σ H Q I q => h.run pins s σ H Q I (i σ H Q q)⟩
theorem PI.or {X : Cx} {tg e : Expr} {t t' : TI} (h : PI X tg e t) (h' : PI X tg e t') : PI X tg e (fun σ H Q => t σ H Q ∨ t' σ H Q) := ⟨fun pins s σ H Q I q => q.elim (fun q => h.run pins s σ H Q I q) fun q => h'.run pins s σ H Q I q⟩
def tIi (G : Ctx) (W : WX) (K : PySem.W.Frag) (it : IT) : TI := fun σ H R => ∃ H0 M0 A env, EnvR K H0 M0 A env σ H ∧ Sat K H0 M0 A W (evi G it env) env σ H fun ds e1 H1 => ∀ J, Goes K (MM M0 e1 σ) (MM M0 e1 σ) H1 J ds → R J H1
theorem iota_len : ∀ (n : Nat) (lo : Int), (iotaD lo n).length = n
  | 0, lo => rfl
  | n + 1, lo => by unfold iotaD; simp [iota_len n (lo + 1)]
theorem iota_get : ∀ (n i : Nat) (lo : Int), i < n → (iotaD lo n)[i]? = some (.int (lo + i))
  | 0, i, lo, h => absurd h (Nat.not_lt_zero _)
  | n + 1, 0, lo, h => by unfold iotaD; simp
  | n + 1, i + 1, lo, h => by
    unfold iotaD
    rw [List.getElem?_cons_succ, iota_get n i (lo + 1) (by omega)]
    congr 2
    omega
section
variable {K : PySem.W.Frag} {M S : AS} {H1 : Hp}
theorem goes_range {lo : Int} {n : Nat} : Goes K M S H1 (Itr lo n) (iotaD lo n) := by
  refine ⟨fun _ => True, YFn fun i => .int (lo + i), by rw [iota_len]; exact walk_range, fun _ _ => trivial, fun i H x H' M' hi _ _ y => ?_⟩
  obtain ⟨rfl, rfl⟩ := y
  rw [iota_len] at hi
  exact ⟨Stp.refl, _, iota_get n i lo hi, rep_int _⟩
end
section
variable {X : Cx} {G : Ctx} {W : WX} {tg : Expr}
/-- one operand that is kept, then what follows -/
theorem take_read {K : PySem.W.Frag} {H0 H : Hp} {M0 A : AS} {env : Env} {σ : L2.St} {i : IR} {α : Type} {f : D → Env → R α} {P : α → Env → Hp → Prop} (E : EnvR K H0 M0 A env σ H) (q : Sat K H0 M0 A W ((ev G i env).take.bind f) env σ H P)
    {Q : VK} (k : ∀ d v e1 H1, EnvR K H0 M0 A e1 σ H1 → Rep K H1 (MM M0 e1 σ) d v → Stp (WW A env σ) H H1 → Sub σ env e1 → Sat K H0 M0 A W (f d e1) e1 σ H1 P → Q v H1) : tI G W K i σ H Q := by
  unfold R.take at q
  rw [R.bind_assoc] at q
  refine ⟨H0, M0, A, env, E, (Sat.bind q).mono fun o e1 H1 _ s1 u1 E1 h1 x hx => ?_⟩
  cases e : takeO e1 o with
  | none => rw [e] at h1; exact h1.elim
  | some p =>
    obtain ⟨d, e2⟩ := p
    rw [e] at h1
    obtain ⟨E2, rd, u2⟩ := E1.take hx e
    have h2 : Sat K H0 M0 A W (f d e2) e1 σ H1 P := h1
    exact k d x e2 H1 E2 rd s1 (u1.trans u2) (h2.sub u2)
theorem rd_read {K : PySem.W.Frag} {H0 H : Hp} {M0 A : AS} {env : Env} {σ : L2.St} {i : IR} {α : Type} {f : D → Env → R α} {P : α → Env → Hp → Prop} (E : EnvR K H0 M0 A env σ H) (q : Sat K H0 M0 A W ((ev G i env).rd.bind f) env σ H P)
    {Q : VK} (k : ∀ d v e1 H1, EnvR K H0 M0 A e1 σ H1 → RepT K H1 (MM M0 e1 σ) d v → Stp (WW A env σ) H H1 → Sub σ env e1 → Sat K H0 M0 A W (f d e1) e1 σ H1 P → Q v H1) : tI G W K i σ H Q := by
  unfold R.rd at q
  rw [R.bind_assoc] at q
  refine ⟨H0, M0, A, env, E, (Sat.bind q).mono fun o e1 H1 _ s1 u1 E1 h1 x hx => ?_⟩
  cases e : rdO e1 o with
  | none => rw [e] at h1; exact h1.elim
  | some d =>
    rw [e] at h1
    exact k d x e1 H1 E1 (hx.rdT E1 e) s1 u1 h1
theorem i_rng1 {a : Expr} {i : IR} {p pos : Pos} (hg : Gl X "range") (hm : X.mg "range" = none) (ha : PE X a (tI G W X.K i)) (hs : starB a = false) : PI X tg (.Call (.Name "range" p) [a] [] pos) (tIi G W X.K (.rng1 i)) :=
  PI.by_ (pi_range1 hg hm (pa_cons ha pa_nil (star_cons hs)) (star_cons hs)) fun σ H R q => by
    obtain ⟨H0, M0, A, env, E, q⟩ := q
    rw [evi] at q
    refine rd_read E q fun d v e1 H1 E1 rd s1 u1 h1 => ?_
    cases d with
    | int j =>
      rw [rd.int]
      have h1 : Sat X.K H0 M0 A W (if -1000000 ≤ j ∧ j ≤ 1000000 then Mp.R.ok (iotaD 0 j.toNat) e1 else .bad) e1 σ H1 (fun ds e1 H1 => ∀ J, Goes X.K (MM M0 e1 σ) (MM M0 e1 σ) H1 J ds → R J H1) := h1
      by_cases hj : -1000000 ≤ j ∧ j ≤ 1000000
      · rw [if_pos hj] at h1
        exact ⟨j, rfl, by omega, by omega, h1 H1 Stp.refl Sub.refl E1 _ goes_range⟩
      · rw [if_neg hj] at h1; exact h1.elim
    | _ => exact h1.elim
end
end Mp
set_option maxHeartbeats 4000000
namespace Mp
open PySem L2
variable [TabsW] [GdW]
section
variable {K : PySem.W.Frag} {H0 H H' : Hp} {M0 A : AS} {env env' : Env} {σ σ' : L2.St}
/-- some cells are dropped, some hold data anew -/
theorem EnvR.re (E : EnvR K H0 M0 A env σ H) (hl : env'.length = σ'.length) (h : ∀ (j : Nat) (c : Cell), env'[j]? = some (some c) → (env[j]? = some (some c) ∧ σ'[j]? = σ[j]?) ∨ ∃ d v, c = .dat d ∧ σ'[j]? = some (some v) ∧ Rep K H (MM M0 env σ) d v) :
    EnvR K H0 M0 A env' σ' H ∧ ∀ a, MutAt env' σ' a → MutAt env σ a := by
  have sub : ∀ a, MutAt env' σ' a → MutAt env σ a := fun a ⟨j, ds, e1, e2⟩ => by
    rcases h j _ e1 with ⟨a1, a2⟩ | ⟨d, v, z, _⟩
    · exact ⟨j, ds, a1, a2 ▸ e2⟩
    · cases z
  have subM : ∀ a, MM M0 env' σ' a → MM M0 env σ a := fun a z => z.elim .inl fun q => .inr (sub a q)
  refine ⟨⟨hl, E.old, E.alive, E.tb, E.m0, E.aM, E.a1, fun j d e1 => ?_, fun j ds e1 => ?_, fun j ds e1 => ?_, fun j k b ds es e1 e2 e3 e4 => ?_, fun j k ds es e1 e2 => ?_, fun j C ns ds e1 => ?_⟩, sub⟩
  · rcases h j _ e1 with ⟨a1, a2⟩ | ⟨d', v, z, s, r⟩
    · obtain ⟨v, b1, b2⟩ := E.dat j d a1
      exact ⟨v, by rw [a2]; exact b1, Rep.stp Stp.refl subM d v b2⟩
    · cases z
      exact ⟨v, s, Rep.stp Stp.refl subM d v r⟩
  · rcases h j _ e1 with ⟨a1, a2⟩ | ⟨d', v, z, s, r⟩
    · obtain ⟨a, xs, b1, b2, b3, b4⟩ := E.own j ds a1
      exact ⟨a, xs, by rw [a2]; exact b1, b2, RepL.stp Stp.refl subM ds xs b3, b4⟩
    · cases z
  · rcases h j _ e1 with ⟨a1, a2⟩ | ⟨d', v, z, s, r⟩
    · obtain ⟨a, xs, b1, b2, b3, b4⟩ := E.io j ds a1
      exact ⟨a, xs, by rw [a2]; exact b1, b2, b3, RepL.stp Stp.refl subM ds xs b4⟩
    · cases z
  · rcases h j _ e1 with ⟨a1, a2⟩ | ⟨d', v, z, s, r⟩
    · rcases h k _ e2 with ⟨b1, b2⟩ | ⟨d', v, z, s, r⟩
      · exact E.inj j k b ds es a1 b1 (a2 ▸ e3) (b2 ▸ e4)
      · cases z
    · cases z
  · rcases h j _ e1 with ⟨a1, a2⟩ | ⟨d', v, z, s, r⟩
    · rcases h k _ e2 with ⟨b1, b2⟩ | ⟨d', v, z, s, r⟩
      · exact E.io1 j k ds es a1 b1
      · cases z
    · cases z
  · rcases h j _ e1 with ⟨a1, a2⟩ | ⟨d', v, z, s, r⟩
    · exact E.slf j C ns ds a1
    · cases z
theorem wipeE_len : ∀ (is : List Nat), (wipeE env is).length = env.length
  | [] => rfl
  | i :: is => by unfold wipeE; rw [List.length_set, wipeE_len is]
theorem backE_len {old : Env} : ∀ (is : List Nat), (backE old env is).length = env.length
  | [] => rfl
  | i :: is => by unfold backE; rw [List.length_set, backE_len is]
theorem wipeE_get {j : Nat} {c : Cell} : ∀ {is : List Nat}, (wipeE env is)[j]? = some (some c) → j ∉ is ∧ env[j]? = some (some c)
  | [], h => ⟨by simp, h⟩
  | i :: is, h => by
    unfold wipeE at h
    by_cases hj : i = j
    · subst hj
      by_cases hl : i < (wipeE env is).length
      · rw [List.getElem?_set_self hl] at h; cases h
      · rw [List.getElem?_eq_none (by rw [List.length_set]; omega)] at h; cases h
    · rw [List.getElem?_set_ne hj] at h
      obtain ⟨a, b⟩ := wipeE_get h
      exact ⟨by simp only [List.mem_cons, not_or]; exact ⟨fun z => hj z.symm, a⟩, b⟩
theorem wipeE_out {j : Nat} : ∀ {is : List Nat}, j ∉ is → (wipeE env is)[j]? = env[j]?
  | [], _ => rfl
  | i :: is, h => by
    simp only [List.mem_cons, not_or] at h
    unfold wipeE
    rw [List.getElem?_set_ne (fun z => h.1 z.symm), wipeE_out h.2]
theorem wipe_out {j : Nat} : ∀ {is : List Nat}, j ∉ is → (wipe σ is)[j]? = σ[j]?
  | [], _ => rfl
  | i :: is, h => by
    simp only [List.mem_cons, not_or] at h
    unfold wipe
    rw [List.getElem?_set_ne (fun z => h.1 z.symm), wipe_out h.2]
theorem wipe_in {j : Nat} : ∀ {is : List Nat}, j ∈ is → j < σ.length → (wipe σ is)[j]? = some none
  | i :: is, h, hl => by
    unfold wipe
    by_cases hj : i = j
    · subst hj
      rw [List.getElem?_set_self (by rw [wipe_length]; exact hl)]
    · rw [List.getElem?_set_ne hj]
      rcases List.mem_cons.mp h with e | h
      · exact absurd e.symm hj
      · exact wipe_in h hl
theorem wipe_eq {is : List Nat} (hl : σ.length = σ'.length) (h : ∀ j, j ∉ is → σ'[j]? = σ[j]?) : wipe σ' is = wipe σ is := by
  apply List.ext_getElem?
  intro j
  by_cases hj : j ∈ is
  · by_cases hlt : j < σ.length
    · rw [wipe_in hj hlt, wipe_in hj (by omega)]
    · rw [List.getElem?_eq_none (by rw [wipe_length]; omega), List.getElem?_eq_none (by rw [wipe_length]; omega)]
  · rw [wipe_out hj, wipe_out hj, h j hj]
theorem backE_get {old : Env} {j : Nat} {c : Cell} : ∀ {is : List Nat}, (backE old env is)[j]? = some (some c) → (j ∉ is ∧ env[j]? = some (some c)) ∨ (j ∈ is ∧ old[j]? = some (some c))
  | [], h => .inl ⟨by simp, h⟩
  | i :: is, h => by
    unfold backE at h
    by_cases hj : i = j
    · subst hj
      by_cases hl : i < (backE old env is).length
      · rw [List.getElem?_set_self hl] at h
        refine .inr ⟨by simp, ?_⟩
        cases e : old[i]? with
        | none => rw [e] at h; cases h
        | some o => rw [e] at h; cases h; rfl
      · rw [List.getElem?_eq_none (by rw [List.length_set]; omega)] at h; cases h
    · rw [List.getElem?_set_ne hj] at h
      rcases backE_get h with ⟨a, b⟩ | ⟨a, b⟩
      · exact .inl ⟨by simp only [List.mem_cons, not_or]; exact ⟨fun z => hj z.symm, a⟩, b⟩
      · exact .inr ⟨List.mem_cons_of_mem _ a, b⟩
theorem backE_in {old : Env} {j : Nat} {c : Cell} : ∀ {is : List Nat}, j ∈ is → j < env.length → old[j]? = some (some c) → (backE old env is)[j]? = some (some c)
  | i :: is, h, hl, e => by
    unfold backE
    by_cases hj : i = j
    · subst hj
      rw [List.getElem?_set_self (by rw [backE_len]; exact hl), e] <;> rfl
    · rw [List.getElem?_set_ne hj]
      rcases List.mem_cons.mp h with z | h
      · exact absurd z.symm hj
      · exact backE_in h hl e
theorem backE_out {old : Env} {j : Nat} : ∀ {is : List Nat}, j ∉ is → (backE old env is)[j]? = env[j]?
  | [], _ => rfl
  | i :: is, h => by
    simp only [List.mem_cons, not_or] at h
    unfold backE
    rw [List.getElem?_set_ne (fun z => h.1 z.symm), backE_out h.2]
/-- one slot holds data anew -/
theorem EnvR.setDat (E : EnvR K H0 M0 A env σ H) {i : Nat} {d : D} {v : V} (hi : i < env.length) (r : Rep K H (MM M0 env σ) d v) : EnvR K H0 M0 A (env.set i (some (.dat d))) (σ.set i (some v)) H ∧ ∀ a, MutAt (env.set i (some (.dat d))) (σ.set i (some v)) a → MutAt env σ a := by
  refine E.re (by rw [List.length_set, List.length_set]; exact E.len) fun j c h => ?_
  by_cases hj : i = j
  · subst hj
    rw [List.getElem?_set_self hi] at h
    cases h
    exact .inr ⟨d, v, rfl, by rw [List.getElem?_set_self (by rw [← E.len]; exact hi)], r⟩
  · rw [List.getElem?_set_ne hj] at h
    exact .inl ⟨h, by rw [List.getElem?_set_ne hj]⟩
theorem free_lt {i : Nat} (h : freeB env i = true) : i < env.length := by
  unfold freeB at h
  cases e : env[i]? with
  | none => rw [e] at h; cases h
  | some o => exact (List.getElem?_eq_some_iff.mp e).1
def gNames : List Nat → TGs
  | [] => gNil
  | i :: is => gCons (gName i) (gNames is)
/-- a tuple or a list is taken apart -/
def gTL (K : PySem.W.Frag) (n : Nat) (t : TGs) : TG := fun v σ H Q => gTup K n t v σ H Q ∨ gLst K n t v σ H Q
def gT (K : PySem.W.Frag) : Tgt → TG
  | .name i => gName i
  | .tup is => gTL K is.length (gNames is)
  | .tup2 i is => gTup K 2 (gCons (gName i) (gCons (gTL K is.length (gNames is)) gNil))
theorem names_read : ∀ (is : List Nat) (ds : List D) (xs : List V) (env : Env) (σ : L2.St) (P : L2.St → Hp → Prop), EnvR K H0 M0 A env σ H → is.all (freeB env) = true → ds.length = is.length → RepL K H (MM M0 env σ) ds xs →
    (∀ σ', EnvR K H0 M0 A ((is.zip ds).foldl (fun e p => e.set p.1 (some (.dat p.2))) env) σ' H → (∀ a, MutAt ((is.zip ds).foldl (fun e p => e.set p.1 (some (.dat p.2))) env) σ' a → MutAt env σ a) → σ'.length = σ.length → (∀ j, j ∉ is → σ'[j]? = σ[j]?) → P σ' H) → gNames is xs σ H P
  | [], ds, xs, env, σ, P, E, hf, hl, r, k => by
    have : ds = [] := by cases ds <;> simp_all
    subst this
    unfold RepL at r
    exact ⟨r, k σ E (fun _ z => z) rfl fun _ _ => rfl⟩
  | i :: is, [], xs, env, σ, P, E, hf, hl, r, k => by simp at hl
  | i :: is, d :: ds, xs, env, σ, P, E, hf, hl, r, k => by
    unfold RepL at r
    obtain ⟨x, ys, rfl, r1, r2⟩ := r
    rw [List.all_cons, Bool.and_eq_true] at hf
    have hi := free_lt hf.1
    obtain ⟨E1, u1⟩ := E.setDat hi r1
    refine ⟨x, ys, rfl, ?_⟩
    have hfree : is.all (freeB (env.set i (some (.dat d)))) = true := by
      rw [List.all_eq_true]
      intro j hj
      have := (List.all_eq_true.mp hf.2) j hj
      unfold freeB at this ⊢
      by_cases h : i = j
      · subst h; rw [List.getElem?_set_self hi]
      · rw [List.getElem?_set_ne h]; exact this
    refine names_read is ds ys (env.set i (some (.dat d))) (σ.set i (some x)) P E1 hfree (by simpa using hl) (RepL.stp Stp.refl (fun a z => z.elim .inl fun q => .inr (u1 a q)) ds ys r2) fun σ' E' u' l' o' => ?_
    refine k σ' E' (fun a z => u1 a (u' a z)) (by rw [l', List.length_set]) fun j hj => ?_
    simp only [List.mem_cons, not_or] at hj
    rw [o' j hj.2, List.getElem?_set_ne (fun z => hj.1 z.symm)]
theorem tgt_read {tg : Tgt} {d : D} {v : V} (E : EnvR K H0 M0 A env σ H) (hb : bindT tg d env = some env') (r : Rep K H (MM M0 env σ) d v) {P : L2.St → Hp → Prop}
    (k : ∀ σ', EnvR K H0 M0 A env' σ' H → (∀ a, MutAt env' σ' a → MutAt env σ a) → σ'.length = σ.length → (∀ j, j ∉ tgOwn tg → σ'[j]? = σ[j]?) → P σ' H) : gT K tg v σ H P := by
  cases tg with
  | name i =>
    unfold bindT at hb
    dsimp only at hb
    by_cases hf : freeB env i = true
    · rw [if_pos hf] at hb
      cases hb
      obtain ⟨E1, u1⟩ := E.setDat (free_lt hf) r
      refine k _ E1 u1 List.length_set fun j hj => ?_
      unfold tgOwn at hj
      rw [List.getElem?_set_ne (fun z => hj (by simp [z]))]
    · rw [if_neg hf] at hb; cases hb
  | tup is =>
    unfold bindT at hb
    dsimp only at hb
    cases d with
    | tup ds =>
      dsimp only at hb
      by_cases hc : ds.length = is.length ∧ is.all (freeB env) = true
      · rw [if_pos hc] at hb
        cases hb
        unfold Rep at r
        obtain ⟨a, xs, rfl, nm, h, rr⟩ := r
        exact .inl ⟨a, xs, rfl, Rd.t h, by rw [← rr.length]; exact hc.1, names_read is ds xs env σ P E hc.2 hc.1 rr k⟩
      · rw [if_neg hc] at hb; cases hb
    | lst ds =>
      dsimp only at hb
      by_cases hc : ds.length = is.length ∧ is.all (freeB env) = true
      · rw [if_pos hc] at hb
        cases hb
        unfold Rep at r
        obtain ⟨a, xs, rfl, h, rr⟩ := r
        exact .inr ⟨a, xs, rfl, h.l, by rw [← rr.length]; exact hc.1, names_read is ds xs env σ P E hc.2 hc.1 rr k⟩
      · rw [if_neg hc] at hb; cases hb
    | _ => cases hb
  | tup2 i is =>
    unfold bindT at hb
    dsimp only at hb
    split at hb
    · rename_i d1 ds
      by_cases hc : ds.length = is.length ∧ freeB env i = true ∧ is.all (freeB env) = true
      · rw [if_pos hc] at hb
        cases hb
        unfold Rep at r
        obtain ⟨a, xs, rfl, nm, h, rr⟩ := r
        have l2 := rr.length
        unfold RepL at rr
        obtain ⟨x1, ys, rfl, r1, rr⟩ := rr
        unfold RepL at rr
        obtain ⟨x2, zs, rfl, r2, rr⟩ := rr
        unfold RepL at rr
        subst rr
        have hi := free_lt hc.2.1
        obtain ⟨E1, u1⟩ := E.setDat hi r1
        have hfree : is.all (freeB (env.set i (some (.dat d1)))) = true := by
          rw [List.all_eq_true]
          intro j hj
          have := (List.all_eq_true.mp hc.2.2) j hj
          unfold freeB at this ⊢
          by_cases h : i = j
          · subst h; rw [List.getElem?_set_self hi]
          · rw [List.getElem?_set_ne h]; exact this
        have r2' : Rep K H (MM M0 (env.set i (some (.dat d1))) (σ.set i (some x1))) (.tup ds) x2 := Rep.stp Stp.refl (fun a z => z.elim .inl fun q => .inr (u1 a q)) _ x2 r2
        unfold Rep at r2'
        obtain ⟨b, ws, rfl, nm2, h2, rr2⟩ := r2'
        refine ⟨a, [x1, .ref b], rfl, Rd.t h, rfl, ⟨x1, [.ref b], rfl, ⟨.ref b, [], rfl, .inl ⟨b, ws, rfl, Rd.t h2, by rw [← rr2.length]; exact hc.1, names_read is ds ws _ _ _ E1 hfree hc.1 rr2 fun σ' E' u' l' o' => ?_⟩⟩⟩⟩
        refine ⟨rfl, k σ' E' (fun a z => u1 a (u' a z)) (by rw [l', List.length_set]) fun j hj => ?_⟩
        unfold tgOwn at hj
        simp only [List.mem_cons, not_or] at hj
        rw [o' j hj.2, List.getElem?_set_ne (fun z => hj.1 z.symm)]
      · rw [if_neg hc] at hb; cases hb
    · cases hb
theorem foldl_out {j : Nat} : ∀ {is : List Nat} {ds : List D} {env : Env}, j ∉ is → ((is.zip ds).foldl (fun e p => e.set p.1 (some (Cell.dat p.2))) env)[j]? = env[j]?
  | [], ds, env, _ => rfl
  | i :: is, [], env, _ => rfl
  | i :: is, d :: ds, env, h => by
    simp only [List.mem_cons, not_or] at h
    show ((is.zip ds).foldl (fun e p => e.set p.1 (some (Cell.dat p.2))) (env.set i (some (Cell.dat d))))[j]? = env[j]?
    rw [foldl_out h.2, List.getElem?_set_ne (fun z => h.1 z.symm)]
theorem foldl_len : ∀ {is : List Nat} {ds : List D} {env : Env}, ((is.zip ds).foldl (fun e p => e.set p.1 (some (Cell.dat p.2))) env).length = env.length
  | [], ds, env => rfl
  | i :: is, [], env => rfl
  | i :: is, d :: ds, env => by
    show ((is.zip ds).foldl (fun e p => e.set p.1 (some (Cell.dat p.2))) (env.set i (some (Cell.dat d)))).length = env.length
    rw [foldl_len, List.length_set]
theorem bind_out {tg : Tgt} {d : D} {env env1 : Env} (h : bindT tg d env = some env1) : (∀ j, j ∉ tgOwn tg → env1[j]? = env[j]?) ∧ env1.length = env.length := by
  cases tg with
  | name i =>
    unfold bindT at h
    dsimp only at h
    by_cases hf : freeB env i = true
    · rw [if_pos hf] at h; cases h
      refine ⟨fun j hj => ?_, List.length_set⟩
      unfold tgOwn at hj
      rw [List.getElem?_set_ne (fun z => hj (by simp [z]))]
    · rw [if_neg hf] at h; cases h
  | tup is =>
    unfold bindT at h
    dsimp only at h
    cases d with
    | tup ds =>
      dsimp only at h
      by_cases hc : ds.length = is.length ∧ is.all (freeB env) = true
      · rw [if_pos hc] at h; cases h
        exact ⟨fun j hj => foldl_out hj, foldl_len⟩
      · rw [if_neg hc] at h; cases h
    | lst ds =>
      dsimp only at h
      by_cases hc : ds.length = is.length ∧ is.all (freeB env) = true
      · rw [if_pos hc] at h; cases h
        exact ⟨fun j hj => foldl_out hj, foldl_len⟩
      · rw [if_neg hc] at h; cases h
    | _ => cases h
  | tup2 i is =>
    unfold bindT at h
    dsimp only at h
    split at h
    · rename_i d1 ds
      by_cases hc : ds.length = is.length ∧ freeB env i = true ∧ is.all (freeB env) = true
      · rw [if_pos hc] at h; cases h
        refine ⟨fun j hj => ?_, foldl_len.trans List.length_set⟩
        unfold tgOwn at hj
        simp only [List.mem_cons, not_or] at hj
        rw [foldl_out hj.2, List.getElem?_set_ne (fun z => hj.1 z.symm)]
      · rw [if_neg hc] at h; cases h
    · cases h
end
end Mp
set_option maxHeartbeats 4000000
namespace Mp
open PySem L2
variable [TabsW] [GdW]
def wNo : WX := fun _ _ _ _ => False
section
variable {K : PySem.W.Frag} {H0 H H' : Hp} {M0 A : AS} {env env' : Env} {σ σ' : L2.St} {W W' : WX}
theorem Sat.noExc {α : Type} {r : R α} {P : α → Env → Hp → Prop} (h : Sat K H0 M0 A W (Mp.noExc r) env σ H P) : Sat K H0 M0 A W' r env σ H P := by
  cases r with
  | bad => exact h
  | exc C n d e => exact h.elim
  | ok o e => exact h
/-- one more address set apart: it is new -/
theorem EnvR.apart (E : EnvR K H0 M0 A env σ H) {p : Addr} {o : HO} (hp : H p = none) (ho : NT o := by first | exact nt_lst | exact nt_ins | exact nt_tup) : EnvR K H0 (fun a => M0 a ∨ a = p) A env σ (upd H p o) := by
  have E' := E.new (o := o) hp
  obtain ⟨n1, n2⟩ := E.fresh hp
  have g : ∀ x, MM (fun a => M0 a ∨ a = p) env σ x → MM M0 env σ x ∨ ¬ Lv H x := fun x z => by
    rcases z with (z | z) | z
    · exact .inl (.inl z)
    · exact .inr (by rw [z]; exact nn_of hp)
    · exact .inl (.inr z)
  have st : Stp (fun _ : Addr => False) H (upd H p o) := Stp.new hp
  refine ⟨E.len, E'.old, E'.alive, E'.tb, fun a h => ?_, fun a h => .inl (E.aM a h), E.a1, fun i d h => ?_, fun i ds h => ?_, fun i ds h => ?_, E.inj, E.io1, E.slf⟩
  · rcases h with h | h
    · exact E'.m0 a h
    · rw [h]; exact ⟨o, upd_same, ho⟩
  · obtain ⟨v, a1, a2⟩ := E.dat i d h
    exact ⟨v, a1, Rep.stp (Stp.new hp) (fun _ z => z) d v (Rep.grow g d v a2)⟩
  · obtain ⟨a, xs, a1, a2, a3, a4, a5⟩ := E.own i ds h
    refine ⟨a, xs, a1, by rw [upd_ne (ne_of_none a2 hp)]; exact a2, RepL.stp (Stp.new hp) (fun _ z => z) ds xs (RepL.grow g ds xs a3), fun z => ?_, a5⟩
    rcases z with z | z
    · exact a4 z
    · exact ne_of_none a2 hp z
  · obtain ⟨a, xs, a1, a2, a3, a4⟩ := E.io i ds h
    exact ⟨a, xs, a1, a2, by rw [upd_ne (ne_of_none a3 hp)]; exact a3, RepL.stp (Stp.new hp) (fun _ z => z) ds xs (RepL.grow g ds xs a4)⟩
/-- what stands apart may change -/
theorem EnvR.setM (E : EnvR K H0 M0 A env σ H) {p : Addr} {o : HO} (hpl : ∀ u, H p = some u → Pl u) (hp : M0 p) (ha : ¬ A p) (h0 : ¬ Lv H0 p) (ho : NT o := by first | exact nt_lst | exact nt_ins | exact nt_tup) : EnvR K H0 M0 A env σ (upd H p o) := by
  have st : Stp (MM M0 env σ) H (upd H p o) := Stp.set (.inl hp) hpl ho
  refine ⟨E.len, fun a u e n t => ?_, fun a h => mo_upd ho a (E.alive a h), fun P q h => tab_upd hpl P q (E.tb P q h), fun a h => mo_upd ho a (E.m0 a h), E.aM, E.a1, fun i d h => ?_, fun i ds h => ?_, fun i ds h => ?_, E.inj, E.io1, E.slf⟩
  · rw [upd_ne (fun z => h0 ⟨u, by rw [← z]; exact e, t⟩)]
    exact E.old a u e n t
  · obtain ⟨v, a1, a2⟩ := E.dat i d h
    exact ⟨v, a1, Rep.stp st (fun _ z => z) d v a2⟩
  · obtain ⟨a, xs, a1, a2, a3, a4, a5⟩ := E.own i ds h
    exact ⟨a, xs, a1, by rw [upd_ne (fun z => a4 (by rw [z]; exact hp))]; exact a2, RepL.stp st (fun _ z => z) ds xs a3, a4, a5⟩
  · obtain ⟨a, xs, a1, a2, a3, a4⟩ := E.io i ds h
    exact ⟨a, xs, a1, a2, by rw [upd_ne (fun z => ha (by rw [← z]; exact a2))]; exact a3, RepL.stp st (fun _ z => z) ds xs a4⟩
/-- less is set apart -/
theorem EnvR.less {M1 : AS} (E : EnvR K H0 M0 A env σ H) (h : ∀ a, M1 a → M0 a) (hA : ∀ a, A a → M1 a) : EnvR K H0 M1 A env σ H := by
  have g : ∀ x, MM M1 env σ x → MM M0 env σ x := fun x z => z.elim (fun q => .inl (h x q)) .inr
  refine ⟨E.len, E.old, E.alive, E.tb, fun a z => E.m0 a (h a z), hA, E.a1, fun i d e => ?_, fun i ds e => ?_, fun i ds e => ?_, E.inj, E.io1, E.slf⟩
  · obtain ⟨v, a1, a2⟩ := E.dat i d e
    exact ⟨v, a1, Rep.stp Stp.refl g d v a2⟩
  · obtain ⟨a, xs, a1, a2, a3, a4, a5⟩ := E.own i ds e
    exact ⟨a, xs, a1, a2, RepL.stp Stp.refl g ds xs a3, fun z => a4 (h a z), a5⟩
  · obtain ⟨a, xs, a1, a2, a3, a4⟩ := E.io i ds e
    exact ⟨a, xs, a1, a2, a3, RepL.stp Stp.refl g ds xs a4⟩
/-- some slots are hidden -/
theorem EnvR.wipe (E : EnvR K H0 M0 A env σ H) (is : List Nat) : EnvR K H0 M0 A (wipeE env is) (L2.wipe σ is) H ∧ ∀ a, MutAt (wipeE env is) (L2.wipe σ is) a → MutAt env σ a :=
  E.re (by rw [wipeE_len, wipe_length]; exact E.len) fun j c h => by
    obtain ⟨a, b⟩ := wipeE_get h
    exact .inl ⟨b, wipe_out a⟩
end
section
variable {X : Cx} {G : Ctx} {W : WX}
def tIf' (G : Ctx) (W : WX) (K : PySem.W.Frag) : Option IR → TT
  | none => tYes
  | some t => tIt G W K t
theorem lc_run {own : List Nat} {tg : Tgt} {T : Option (Env → R Bool)} {ee : Env → R D} {d : D} {ds : List D} {env : Env} {xs : List D} {e2 : Env} (h : lcLoop own tg T ee (d :: ds) env = .ok xs e2) :
    ∃ env1 b env2, bindT tg d (wipeE env own) = some env1 ∧ ((T = none ∧ b = true ∧ env2 = env1) ∨ ∃ t, T = some t ∧ t env1 = .ok b env2) ∧
        ((b = true ∧ ∃ x env3 ys, ee env2 = .ok x env3 ∧ lcLoop own tg T ee ds env3 = .ok ys e2 ∧ xs = x :: ys) ∨ (b = false ∧ lcLoop own tg T ee ds env2 = .ok xs e2)) := by
  unfold lcLoop at h
  cases hb : bindT tg d (wipeE env own) with
  | none => rw [hb] at h; cases h
  | some env1 =>
    rw [hb] at h
    dsimp only at h
    have main : ∀ (r : R Bool), (r.bind fun b env2 => if b = true then (ee env2).bind fun x env3 => (lcLoop own tg T ee ds env3).bind fun xs env4 => .ok (x :: xs) env4 else lcLoop own tg T ee ds env2) = .ok xs e2 →
        ∃ b env2, r = .ok b env2 ∧ ((b = true ∧ ∃ x env3 ys, ee env2 = .ok x env3 ∧ lcLoop own tg T ee ds env3 = .ok ys e2 ∧ xs = x :: ys) ∨ (b = false ∧ lcLoop own tg T ee ds env2 = .ok xs e2)) := fun r h => by
      cases r with
      | bad => cases h
      | exc C f d e => cases h
      | ok b env2 =>
        refine ⟨b, env2, rfl, ?_⟩
        cases b with
        | false => exact .inr ⟨rfl, h⟩
        | true =>
          have h : ((ee env2).bind fun x env3 => (lcLoop own tg T ee ds env3).bind fun xs env4 => R.ok (x :: xs) env4) = .ok xs e2 := h
          refine .inl ⟨rfl, ?_⟩
          cases h1 : ee env2 with
          | bad => rw [h1] at h; cases h
          | exc C f d e => rw [h1] at h; cases h
          | ok x env3 =>
            rw [h1] at h
            have h : ((lcLoop own tg T ee ds env3).bind fun xs env4 => R.ok (x :: xs) env4) = .ok xs e2 := h
            cases h2 : lcLoop own tg T ee ds env3 with
            | bad => rw [h2] at h; cases h
            | exc C f d e => rw [h2] at h; cases h
            | ok ys e4 => rw [h2] at h; cases h; exact ⟨x, env3, ys, rfl, h2, rfl⟩
    cases T with
    | none =>
      obtain ⟨b, env2, e1, e3⟩ := main (R.ok true env1) h
      cases e1
      exact ⟨env1, true, env1, rfl, .inl ⟨rfl, rfl, rfl⟩, e3⟩
    | some t =>
      obtain ⟨b, env2, e1, e3⟩ := main (t env1) h
      exact ⟨env1, b, env2, rfl, .inr ⟨t, rfl, e1⟩, e3⟩
def tsF (G : Ctx) : Option IR → Option (Env → R Bool)
  | none => none
  | some t => some fun x => truR (ev G t x)
/-- the state between two turns -/
structure LcAt (G : Ctx) (K : PySem.W.Frag) (H0 H1 : Hp) (M0 A : AS) (e1 : Env) (σ : L2.St) (own : List Nat) (tg : Tgt) (t : Option IR) (e : IR) (Dl : Addr) (ds xs : List D) (e2 : Env) (i : Nat) (H : Hp) : Prop where
  ex : ∃ (envI : Env) (acc rest : List D) (ys : List V), H Dl = some (.lst ys) ∧ ys.length ≤ i ∧ EnvR K H0 (fun a => M0 a ∨ a = Dl) A (wipeE envI own) (L2.wipe σ own) H ∧ RepL K H (MM (fun a => M0 a ∨ a = Dl) (wipeE envI own) (L2.wipe σ own)) acc ys ∧
    xs = acc ++ rest ∧ lcLoop own tg (tsF G t) (fun x => (ev G e x).take) (ds.drop i) envI = .ok rest e2 ∧ Stp (WW A e1 σ) H1 H ∧ (∀ a, MutAt (wipeE envI own) (L2.wipe σ own) a → MutAt e1 σ a) ∧
    (∀ (j : Nat) (c : Cell), j ∉ own → e1[j]? = some (some c) → ∃ c', envI[j]? = some (some c')) ∧ (∀ (j : Nat) (ds : List D), j ∉ own → envI[j]? = some (some (Cell.io ds)) → ∃ es, e1[j]? = some (some (Cell.io es))) ∧ envI.length = e1.length
theorem lc_reads {K : PySem.W.Frag} {H0 H1 : Hp} {M0 A : AS} {e1 : Env} {σ : L2.St} {own : List Nat} {tg : Tgt} {t : Option IR} {e : IR} {ds xs : List D} {e2 : Env} {Q : VK} {J : L2.It} {Dl : Addr} (E1 : EnvR K H0 M0 A e1 σ H1) (hown : ∀ j, j ∈ tgOwn tg → j ∈ own) (hide : own.all (hideB e1) = true)
    (gJ : Goes K (MM M0 e1 σ) (WW A e1 σ) H1 J ds) (hD : H1 Dl = none) (hlen : ds.length ≤ BIG) (hrun : lcLoop own tg (tsF G t) (fun x => (ev G e x).take) ds e1 = .ok xs e2)
    (fin : ∀ H', Stp (WW A e1 σ) H1 H' → Sub σ e1 (backE e1 e2 own) → EnvR K H0 M0 A (backE e1 e2 own) σ H' → Rep K H' (MM M0 (backE e1 e2 own) σ) (.lst xs) (.ref Dl) → (∃ zs, H' Dl = some (.lst zs) ∧ RepL K H' (fun a => M0 a ∨ a = Dl) xs zs ∧ EnvR K H0 (fun a => M0 a ∨ a = Dl) A (backE e1 e2 own) σ H' ∧ RepL K H' (fun a => MM M0 (backE e1 e2 own) σ a ∨ a = Dl) xs zs) → Q (.ref Dl) H') :
    ∃ Wd : Nat → Nat → Hp → Prop, (∃ m, Wd 0 m (upd H1 Dl (.lst []))) ∧ ∀ i m H, Wd i m H →
      (J.stop i H ∧ Q (.ref Dl) H) ∨ (J.go i H ∧ ∃ Nx : Hp → Prop, (∀ H', Nx H' → ∃ m', m' < m ∧ Wd (i + 1) m' H') ∧ ∀ x H', J.yld i H x H' → gT K tg x (L2.wipe σ own) H' fun σ2 H2 => L2.wipe σ2 own = L2.wipe σ own ∧ tIf' G wNo K t σ2 H2 fun b H3 =>
        if b = true then tI G wNo K e σ2 H3 fun y H4 => ∃ acc, H4 Dl = some (.lst acc) ∧ acc.length < sizeLine ∧ Nx (upd H4 Dl (.lst (acc ++ [y]))) else Nx H3) := by
  obtain ⟨Gd, Y, wk, hGd, hY⟩ := gJ
  have hs : sizeLine = 16777216 := sizeLine_eq
  have fr := E1.fresh hD
  have nA : ¬ A Dl := fun z => (E1.m0 Dl (E1.aM Dl z)).ne hD
  refine lc_it wk (LcAt G K H0 H1 M0 A e1 σ own tg t e Dl ds xs e2) ⟨e1, [], xs, [], upd_same, Nat.zero_le _, ((E1.wipe own).1).apart hD, RepL.nil, rfl, hrun, Stp.new hD, (E1.wipe own).2, fun j c _ h => ⟨c, h⟩, fun j ds _ h => ⟨ds, h⟩, rfl⟩ (fun i H _ p => ?_) (fun i x H H' hi p y => ?_) fun H p => ?_
  · obtain ⟨_, _, _, _, _, _, _, _, _, _, s, _⟩ := p.ex
    exact hGd H s
  · obtain ⟨envI, acc, rest, ys, hH, hyl, EI, rI, ex, run, s, mI, th, iom, el⟩ := p.ex
    have hM : ∀ a, MM (fun a => M0 a ∨ a = Dl) (wipeE envI own) (L2.wipe σ own) a → (MM M0 e1 σ a ∨ ¬ Lv H1 a) ∧ Lv H a := fun a z => by
      refine ⟨?_, ?_⟩
      · rcases z with (z | z) | z
        · exact .inl (.inl z)
        · exact .inr (by rw [z]; exact nn_of hD)
        · exact .inl (.inr (mI a z))
      · rcases z with z | ⟨j, es, z1, z2⟩
        · exact EI.m0 a z
        · obtain ⟨b, zs, b1, b2, _⟩ := EI.own j es z1
          rw [z2] at b1; cases b1
          exact Lv.lst b2
    obtain ⟨st, d, hd, rd⟩ := hY i H x H' _ hi s hM y
    have hdrop : ds.drop i = d :: ds.drop (i + 1) := by
      rw [List.drop_eq_getElem_cons hi]
      congr 1
      have := List.getElem?_eq_getElem hi
      rw [hd] at this; exact (Option.some.inj this).symm
    rw [hdrop] at run
    obtain ⟨env1, b, env2, hb, ht, hr⟩ := lc_run run
    have EI' := EI.keep st
    have wl : (L2.wipe σ own).length = σ.length := wipe_length σ own
    -- the target
    refine tgt_read EI' hb rd fun σ' E' u' l' o' => ?_
    have hw : L2.wipe σ' own = L2.wipe σ own := by
      have : L2.wipe σ' own = L2.wipe (L2.wipe σ own) own := wipe_eq l'.symm fun j hj => o' j fun z => hj (hown j z)
      rw [this]
      exact wipe_eq wl.symm fun j hj => wipe_out hj
    refine ⟨hw, ?_⟩
    have nDl : ∀ {ev : Env} {τ : L2.St} {h : Hp}, EnvR K H0 (fun a => M0 a ∨ a = Dl) A ev τ h → ¬ WW A ev τ Dl := fun {ev τ h} E z => by
      rcases z with z | ⟨j, es, z1, z2⟩
      · exact nA z
      · obtain ⟨b, zs, b1, _, _, b4, _⟩ := E.own j es z1
        rw [z2] at b1; cases b1
        exact b4 (.inr rfl)
    have wI : ∀ a, WW A env1 σ' a → MM (fun a => M0 a ∨ a = Dl) (wipeE envI own) (L2.wipe σ own) a := fun a z => z.elim (fun q => .inl (.inl (E1.aM a q))) fun q => .inr (u' a q)
    have w1 : ∀ a, WW A env1 σ' a → WW A e1 σ a := fun a z => z.elim .inl fun q => .inr (mI a (u' a q))
    have cellOut : ∀ j, j ∉ own → env1[j]? = envI[j]? := fun j hj => by rw [(bind_out hb).1 j fun z => hj (hown j z), wipeE_out hj]
    have lenOut : env1.length = envI.length := by rw [(bind_out hb).2, wipeE_len]
    -- behind the test
    have cont : ∀ H3, Stp (WW A env1 σ') H' H3 → Sub σ' env1 env2 → EnvR K H0 (fun a => M0 a ∨ a = Dl) A env2 σ' H3 → if b = true then tI G wNo K e σ' H3 (fun y H4 => ∃ acc, H4 Dl = some (.lst acc) ∧ acc.length < sizeLine ∧ LcAt G K H0 H1 M0 A e1 σ own tg t e Dl ds xs e2 (i + 1) (upd H4 Dl (.lst (acc ++ [y]))))
        else LcAt G K H0 H1 M0 A e1 σ own tg t e Dl ds xs e2 (i + 1) H3 := fun H3 s2 u2 E2 => by
      have hH3 : H3 Dl = some (.lst ys) := s2.st Dl _ (st.st Dl _ hH id nt_lst) (nDl E') nt_lst
      have t3 : Stp (MM (fun a => M0 a ∨ a = Dl) (wipeE envI own) (L2.wipe σ own)) H H3 := st.no.trans (s2.weak wI)
      have t3' : Stp (WW A e1 σ) H1 H3 := (s.trans st.no).trans (s2.weak w1)
      rcases hr with ⟨rfl, x0, env3, ys', he, hrun', hxs⟩ | ⟨rfl, hrun'⟩
      · rw [if_pos rfl]
        refine take_read (f := fun d e => .ok d e) (P := fun d e _ => d = x0 ∧ e = env3) E2 (by rw [he]; exact fun _ _ _ _ => ⟨rfl, rfl⟩) fun d' v e' H4 E4 rd4 s4 u4 h4 => ?_
        obtain ⟨rfl, rfl⟩ := h4 H4 Stp.refl Sub.refl E4
        have hH4 : H4 Dl = some (.lst ys) := s4.st Dl _ hH3 (nDl E2) nt_lst
        refine ⟨ys, hH4, by unfold BIG at hlen; omega, ?_⟩
        have E5 := (E4.setM (o := .lst (ys ++ [v])) (pl_at hH4) (.inr rfl) nA fr.2).wipe own
        rw [hw] at E5
        have m5 : ∀ a, MutAt (wipeE e' own) (L2.wipe σ own) a → MutAt (wipeE envI own) (L2.wipe σ own) a := fun a z => u' a (u2.own a (u4.own a (E5.2 a z)))
        have M5 : ∀ a, MM (fun a => M0 a ∨ a = Dl) (wipeE e' own) (L2.wipe σ own) a → MM (fun a => M0 a ∨ a = Dl) (wipeE envI own) (L2.wipe σ own) a := fun a z => z.elim .inl fun q => .inr (m5 a q)
        have w2 : ∀ a, WW A env2 σ' a → WW A env1 σ' a := fun a z => z.elim .inl fun q => .inr (u2.own a q)
        have t4 := t3.trans (s4.weak fun a z => wI a (w2 a z))
        have t4' := t3'.trans (s4.weak fun a z => w1 a (w2 a z))
        refine ⟨e', acc ++ [d'], ys', ys ++ [v], upd_same, by rw [List.length_append]; simp only [List.length_singleton]; omega, E5.1, ?_, by rw [ex, hxs, List.append_assoc]; rfl, hrun', ⟨fun a o h n t => ?_, fun a h => mo_upd nt_lst a (t4'.mo a h), fun P q m h => tab_upd (pl_at hH4) P q (t4'.tb P q m h), fun b fs h => xd_upd (pl_at hH4) b fs (t4'.xd b fs h)⟩, fun a z => mI a (m5 a z), fun j c hj h => ?_, fun j es hj h => ?_, ?_⟩
        · refine RepL.append ?_ (RepL.cons ?_ RepL.nil)
          · exact RepL.stp (t4.trans (Stp.set (.inl (.inr rfl)) (pl_at hH4))) M5 acc ys rI
          · exact Rep.stp (M := MM (fun a => M0 a ∨ a = Dl) e' σ') (Stp.set (.inl (.inr rfl)) (pl_at hH4)) (fun a z => z.elim .inl fun q => .inr (E5.2 a q)) d' v rd4
        · rw [upd_ne (ne_of_none h hD)]
          exact t4'.st a o h n t
        · obtain ⟨c1, h1⟩ := th j c hj h
          obtain ⟨c2, h2⟩ := u2.there j c1 (by rw [cellOut j hj]; exact h1)
          exact u4.there j c2 h2
        · obtain ⟨es2, h2⟩ := u4.io j es h
          obtain ⟨es1, h1⟩ := u2.io j es2 h2
          rw [cellOut j hj] at h1
          exact iom j es1 hj h1
        · rw [u4.len, u2.len, lenOut, el]
      · rw [if_neg Bool.false_ne_true]
        have E5 := E2.wipe own
        rw [hw] at E5
        have m5 : ∀ a, MutAt (wipeE env2 own) (L2.wipe σ own) a → MutAt (wipeE envI own) (L2.wipe σ own) a := fun a z => u' a (u2.own a (E5.2 a z))
        have M5 : ∀ a, MM (fun a => M0 a ∨ a = Dl) (wipeE env2 own) (L2.wipe σ own) a → MM (fun a => M0 a ∨ a = Dl) (wipeE envI own) (L2.wipe σ own) a := fun a z => z.elim .inl fun q => .inr (m5 a q)
        refine ⟨env2, acc, rest, ys, hH3, by omega, E5.1, RepL.stp t3 M5 acc ys rI, ex, hrun', t3', fun a z => mI a (m5 a z), fun j c hj h => ?_, fun j es hj h => ?_, ?_⟩
        · obtain ⟨c1, h1⟩ := th j c hj h
          exact u2.there j c1 (by rw [cellOut j hj]; exact h1)
        · obtain ⟨es1, h1⟩ := u2.io j es h
          rw [cellOut j hj] at h1
          exact iom j es1 hj h1
        · rw [u2.len, lenOut, el]
    rcases ht with ⟨z1, rfl, rfl⟩ | ⟨t0, z1, z2⟩
    · have tn : t = none := by cases t with
        | none => rfl
        | some _ => cases z1
      subst tn
      exact cont H' Stp.refl Sub.refl E'
    · cases t with
      | none => cases z1
      | some t' =>
        cases z1
        exact ⟨H0, _, A, env1, E', by (have z3 : truR (ev G t' env1) = .ok b env2 := z2); rw [z3]; exact fun H3 s2 u2 E2 => cont H3 s2 u2 E2⟩
  · obtain ⟨envI, acc, rest, ys, hH, hyl, EI, rI, ex, run, s, mI, th, iom, el⟩ := p.ex
    rw [List.drop_length] at run
    unfold lcLoop at run
    cases run
    have hD' : ∀ j, j ∈ own → e1[j]? = some none ∨ ∃ d, e1[j]? = some (some (.dat d)) := fun j hj => by
      have h := (List.all_eq_true.mp hide) j hj
      unfold hideB at h
      cases q : e1[j]? with
      | none => rw [q] at h; cases h
      | some o =>
        rw [q] at h
        cases o with
        | none => exact .inl rfl
        | some c =>
          cases c with
          | dat d => exact .inr ⟨d, rfl⟩
          | _ => cases h
    have mB : ∀ a, MutAt (backE e1 e2 own) σ a → MutAt (wipeE e2 own) (L2.wipe σ own) a := fun a ⟨j, es, z1, z2⟩ => by
      rcases backE_get z1 with ⟨b1, b2⟩ | ⟨b1, b2⟩
      · exact ⟨j, es, by rw [wipeE_out b1]; exact b2, by rw [wipe_out b1]; exact z2⟩
      · rcases hD' j b1 with c1 | ⟨d, c1⟩ <;> (rw [c1] at b2; cases b2)
    obtain ⟨E2, _⟩ := EI.re (env' := backE e1 e2 own) (σ' := σ) (by rw [backE_len, el]; exact E1.len) fun j c h => by
      rcases backE_get h with ⟨b1, b2⟩ | ⟨b1, b2⟩
      · exact .inl ⟨by rw [wipeE_out b1]; exact b2, (wipe_out b1).symm⟩
      · rcases hD' j b1 with c1 | ⟨d, c1⟩
        · rw [c1] at b2; cases b2
        · rw [c1] at b2; cases b2
          obtain ⟨v, v1, v2⟩ := E1.dat j d c1
          refine .inr ⟨d, v, rfl, v1, ?_⟩
          have g : Rep K H1 (fun a => MM M0 e1 σ a ∨ a = Dl) d v := Rep.grow (fun a z => z.elim .inl fun q => .inr (by rw [q]; exact nn_of hD)) d v v2
          refine Rep.stp (s.weak fun a z => .inl (WW.sub E1.aM a z)) (fun a z => ?_) d v g
          rcases z with (z | z) | z
          · exact .inl (.inl z)
          · exact .inr z
          · exact .inl (.inr (mI a z))
    have E3 := E2.less (M1 := M0) (fun a z => .inl z) E1.aM
    refine fin H s ⟨fun a z => mI a (mB a z), fun j c h => ?_, fun j es h => ?_, by rw [backE_len, el]⟩ E3 ?_ ⟨ys, hH, by rw [ex, List.append_nil]; exact RepL.stp Stp.refl (fun a z => .inl z) acc ys rI, E2, by rw [ex, List.append_nil]; exact RepL.stp Stp.refl (fun a z => z.elim (fun z => z.elim (fun z => .inl (.inl z)) fun z => .inr (mB a z)) fun z => .inl (.inr z)) acc ys rI⟩
    · by_cases hj : j ∈ own
      · exact ⟨c, backE_in hj (by rw [el]; exact (List.getElem?_eq_some_iff.mp h).1) h⟩
      · obtain ⟨c', h'⟩ := th j c hj h
        exact ⟨c', by rw [backE_out hj]; exact h'⟩
    · rcases backE_get h with ⟨b1, b2⟩ | ⟨b1, b2⟩
      · exact iom j es b1 b2
      · exact ⟨es, b2⟩
    · unfold Rep
      refine ⟨Dl, ys, rfl, .inl ⟨fun z => ?_, Rd.of hH⟩, ?_⟩
      · rcases z with z | ⟨j, es, z1, z2⟩
        · exact (E1.m0 Dl z).ne hD
        · obtain ⟨b, zs, b1, _, _, b4, _⟩ := E2.own j es z1
          rw [z2] at b1; cases b1
          exact b4 (.inr rfl)
      · rw [ex, List.append_nil]
        refine RepL.stp Stp.refl (fun a z => ?_) acc ys rI
        rcases z with z | z
        · exact .inl (.inl z)
        · exact .inr (mB a z)
end
end Mp
set_option maxHeartbeats 4000000
namespace Mp
open PySem L2
variable [TabsW] [GdW]
section
variable {X : Cx} {G : Ctx} {W : WX}
theorem ev_lc {tg : Tgt} {it : IT} {t : Option IR} {e : IR} {own : List Nat} {env : Env} : ev G (.lc tg it t e own) env = (noExc (evi G it env)).bind fun ds e1 => if ds.length ≤ BIG ∧ own.all (hideB e1) = true ∧ (tgOwn tg).all (fun i => own.contains i) = true then
        (noExc (lcLoop own tg (tsF G t) (fun x => (ev G e x).take) ds e1)).bind fun xs e2 => .ok (.val (.lst xs)) (backE e1 e2 own) else .bad := by
  cases t <;> (rw [ev.eq_def]; rfl)
theorem lc_imp {K : PySem.W.Frag} {tg : Tgt} {it : IT} {t : Option IR} {e : IR} {own : List Nat} {σ : L2.St} {H : Hp} {Q : VK} (q : tI G W K (.lc tg it t e own) σ H Q) : tLc (tIi G W K it) (gT K tg) (tIf' G wNo K t) (tI G wNo K e) own σ H Q := by
  obtain ⟨H0, M0, A, env, E, q⟩ := q
  rw [ev_lc] at q
  refine ⟨H0, M0, A, env, E, (Sat.noExc (W' := W) (Sat.bind q)).mono fun ds e1 H1 _ s1 u1 E1 h1 J gJ D hD => ?_⟩
  by_cases hcn : ds.length ≤ BIG ∧ own.all (hideB e1) = true ∧ (tgOwn tg).all (fun i => own.contains i) = true
  · rw [if_pos hcn] at h1
    cases hr : lcLoop own tg (tsF G t) (fun x => (ev G e x).take) ds e1 with
    | bad => rw [hr] at h1; exact h1.elim
    | exc C f d e2 => rw [hr] at h1; exact h1.elim
    | ok xs e2 =>
      rw [hr] at h1
      exact lc_reads E1 (fun j hj => by simpa using (List.all_eq_true.mp hcn.2.2) j hj) hcn.2.1 (gJ.weak (WW.sub E1.aM)) hD hcn.1 hr fun H' st sb E' r _ => h1 H' st sb E' _ r
  · rw [if_neg hcn] at h1; exact h1.elim
theorem e_lc {elt tgE iter : Expr} {ifs : List Expr} {scope : Scope} {own : List (Str × Nat)} {pos : Pos} {tg : Tgt} {it : IT} {t : Option IR} {e : IR} (hc : X.calm = true) (hN : X.N.Nodup) (hi : PI X tgE iter (tIi G W X.K it)) (ok : BlkOk X.N X.env.scope scope own)
    (hg : ∀ (s : Shared) (H : Hp) (C : Addr) (cl : List (Str × Addr)) (fp : List Addr), PG (X.blk s H scope (compEnvC scope cl C X.env) fp) tgE (gT X.K tg)) (ht : ∀ (s : Shared) (H : Hp) (C : Addr) (cl : List (Str × Addr)) (fp : List Addr), PTs (X.blk s H scope (compEnvC scope cl C X.env) fp) ifs (tIf' G wNo X.K t))
    (he : ∀ (s : Shared) (H : Hp) (C : Addr) (cl : List (Str × Addr)) (fp : List Addr), PE (X.blk s H scope (compEnvC scope cl C X.env) fp) elt (tI G wNo X.K e)) (hs : ∀ x, foldedSetIterable iter X.env x = pure x) :
    PE X (.ListComp elt [⟨tgE, iter, ifs, 0⟩] scope pos) (tI G W X.K (.lc tg it t e (own.map (·.2)))) := PE.by_ (pe_lc hc hN hi ok hg ht he hs) fun σ H Q q => lc_imp q
/-- an own class whose values' class is known -/
structure IsC (K : PySem.W.Frag) (C : Str) : Prop where
  cl : Cls K (clsAt K C)
  ha : PySem.W.findIn K (.ref (clsAt K C)) "__class__" = some (some (.builtin "object.__class__"))
  hn : PySem.W.specialIn K (.builtin "object.__class__") "__get__" = some (some (.builtin "getset_descriptor.__get__"))
  ht : PySem.W.takesIn K (.builtin "object.__class__") = some true
  hm : PySem.W.mroIn K (clsAt K C) (.type "object") = some true
end
end Mp
set_option maxHeartbeats 4000000
namespace Mp
open PySem L2
variable [TabsW] [GdW]
inductive SR where
  | nx (env : Env) | rt (d : D) (env : Env) | rl (ds : List D) (env : Env) | bk (env : Env) | ct (env : Env) | exc (C : Str) (f : Str) (d : D) (env : Env) | bad
def R.toS {α : Type} : R α → (α → Env → SR) → SR
  | .ok a e, k => k a e
  | .exc C f d e, _ => .exc C f d e
  | .bad, _ => .bad
def SR.seq : SR → (Env → SR) → SR
  | .nx e, k => k e
  | r, _ => r
/-- a list just made -/
inductive LM where
  | lst (es : List IR) | copy (e : IR) | call (j : Nat) (es : List IR) | add (a b : IR) | mul (a b : IR)
inductive ST where
  | expr (e : IR) | asg (tg : Tgt) (e : IR) | new (i : Nat) (m : LM) | six (i : Nat) (ie e : IR)
  | if_ (t : IR) (a b : List ST) | for_ (tg : Tgt) (it : IT) (b : List ST) | whl (t : IR) (b : List ST)
  | ret (e : IR) | retn | retl (m : LM) | pass | brk | cont | par (is : List Nat) (es : List IR) | parn (i : Nat) (e : IR) (j : Nat) (m : LM) | parn3 (i : Nat) (a : IR) (j : Nat) (b : IR) (k : Nat) (m : LM) | nev | raise (C f : Str) (e : IR) | parl (i : Nat) (m : LM) (j : Nat) | setL (i : Nat) (ie e : IR) | parl2 (i j : Nat) (a : IR) | parl3 (i j : Nat) (a : IR) (k : Nat) (b : IR) | aug (i : Nat) (neg : Bool) (e : IR) | parll (i : Nat) (m : LM) (j : Nat) (n : LM) | retc (e : IR) | newc (i : Nat) (e : IR) | dloop (i : Nat) (tg : Tgt) (it : IT) (c : IR) (j : Nat) (w k v : IR) (ts : List IR) | tryk (j : Nat) (n : Nat) (e : IR) (tab : List Str)
/-- the turns of a for -/
def forL (tg : Tgt) (body : Env → SR) : List D → Env → SR
  | [], env => .nx env
  | d :: ds, env => match bindT tg d env with
    | none => .bad
    | some e1 => match body e1 with
      | .nx e2 => forL tg body ds e2
      | .ct e2 => forL tg body ds e2
      | .bk e2 => .nx e2
      | .rt d e2 => .rt d e2
      | .rl d e2 => .rl d e2
      | .exc C f d e2 => .exc C f d e2
      | .bad => .bad
/-- the turns of a while, at most so many -/
def whlL (t : Env → R Bool) (body : Env → SR) : Nat → Env → SR
  | 0, _ => .bad
  | n + 1, env => (t env).toS fun b e1 => if b then (match body e1 with
      | .nx e2 => whlL t body n e2
      | .ct e2 => whlL t body n e2
      | .bk e2 => .nx e2
      | .rt d e2 => .rt d e2
      | .rl d e2 => .rl d e2
      | .exc C f d e2 => .exc C f d e2
      | .bad => .bad) else .nx e1
def evL (G : Ctx) : LM → Env → R (List D)
  | .lst es, env => evs G es env
  | .copy e, env => (ev G e env).rd.bind fun d e1 => match d with
    | .lst ds => .ok ds e1
    | .tup ds => .ok ds e1
    | _ => .bad
  | .add a b, env => (ev G a env).bind fun x e1 => (ev G b e1).bind fun y e2 => match rdO e2 x, rdO e2 y with
    | some (.lst p), some (.lst q) => if p.length + q.length ≤ BIG then .ok (p ++ q) e2 else .bad
    | _, _ => .bad
  | .mul a b, env => (ev G a env).bind fun x e1 => (ev G b e1).bind fun y e2 => match rdO e2 x, rdO e2 y with
    | some (.lst p), some (.int j) => if 0 ≤ j ∧ j ≤ 100 ∧ p.length ≤ 100 then .ok (List.replicate j.toNat p).flatten e2 else .bad
    | _, _ => .bad
  | .call j es, env => match G.frs[j]? with
    | none => .bad
    | some f => if es.length = f.n then (evs G es env).bind fun vs e1 => (match f.sem vs with
      | .ok (.lst ds) _ => .ok ds e1
      | .exc C g d _ => .exc C g d e1
      | _ => .bad) else .bad
/-- tests of which each answers False at once -/
def dtL (G : Ctx) : List IR → Env → (Env → SR) → SR
  | [], env, k => k env
  | t :: ts, env, k => (truR (ev G t env)).toS fun b e => if b then .rt (.bl false) e else dtL G ts e k
/-- the turns of a loop that fills a dict: a test, a name, what belongs to the key, tests -/
def dlL (G : Ctx) (i : Nat) (tg : Tgt) (c : IR) (j : Nat) (w k v : IR) (ts : List IR) : List D → List Key → List D → Env → SR
  | [], ks, ds, env => .nx (env.set i (some (.dat (.dk ks ds))))
  | d :: xs, ks, ds, env => match bindT tg d env with
    | none => .bad
    | some e1 => (truR (ev G c e1)).toS fun b e2 => if b then
        (ev G w e2).take.toS fun wd e3 => match bindT (.name j) wd e3 with
          | none => .bad
          | some e4 => (ev G v e4).take.toS fun vd e5 => (ev G k e5).take.toS fun kd e6 => match keyD kd with
            | none => .bad
            | some kk => if ks.length ≤ 1000 ∧ ks.all (fun q => decide (q ≠ kk)) = true then dtL G ts e6 fun e7 => dlL G i tg c j w k v ts xs (ks ++ [kk]) (ds ++ [vd]) e7 else .bad
      else dlL G i tg c j w k v ts xs ks ds e2
/-- a list that may be changed here -/
def placeB (env : Env) (i : Nat) : Bool := match env[i]? with
  | some (some (.own _)) => true
  | some (some (.io _)) => true
  | _ => false
mutual
def evS (G : Ctx) : ST → Env → SR
  | .expr e, env => (ev G e env).toS fun _ e1 => .nx e1
  | .asg tg e, env => (ev G e env).take.toS fun d e1 => match bindT tg d e1 with
    | some e2 => .nx e2
    | none => .bad
  | .new i m, env => (evL G m env).toS fun ds e1 => if ds.length ≤ BIG ∧ freeB e1 i = true then .nx (e1.set i (some (.own ds))) else .bad
  | .six i ie e, env => (ev G e env).take.toS fun d e1 => if placeB e1 i then (ev G ie e1).rd.toS fun k e2 => (match k, e2[i]? with
      | .int k, some (some (.own ds)) => if 0 ≤ k ∧ k < ds.length then .nx (e2.set i (some (.own (ds.set k.toNat d)))) else .bad
      | .int k, some (some (.io ds)) => if 0 ≤ k ∧ k < ds.length then .nx (e2.set i (some (.io (ds.set k.toNat d)))) else .bad
      | _, _ => .bad) else .bad
  | .retc e, env => (ev G e env).toS fun o e1 => match o with
    | .val (.lst ds) => if ds.length ≤ BIG then .rl ds e1 else .bad
    | _ => .bad
  | .newc i e, env => (ev G e env).toS fun o e1 => match o with
    | .val (.lst ds) => if ds.length ≤ BIG ∧ freeB e1 i = true then .nx (e1.set i (some (.own ds))) else .bad
    | _ => .bad
  | .retl m, env => (evL G m env).toS fun ds e1 => if ds.length ≤ BIG then .rl ds e1 else .bad
  | .par is es, env => (evs G es env).toS fun ds e1 => match bindT (.tup is) (.tup ds) e1 with
    | some e2 => .nx e2
    | none => .bad
  | .parn i e j m, env => (ev G e env).take.toS fun d e1 => (evL G m e1).toS fun ds e2 => if ds.length ≤ BIG ∧ freeB e2 i = true ∧ freeB e2 j = true ∧ i ≠ j then .nx ((e2.set i (some (.dat d))).set j (some (.own ds))) else .bad
  | .parn3 i a j b k m, env => (ev G a env).take.toS fun d e1 => (ev G b e1).take.toS fun d2 e2 => (evL G m e2).toS fun ds e3 => if ds.length ≤ BIG ∧ freeB e3 i = true ∧ freeB e3 j = true ∧ freeB e3 k = true ∧ i ≠ j ∧ i ≠ k ∧ j ≠ k then .nx (((e3.set i (some (.dat d))).set j (some (.dat d2))).set k (some (.own ds))) else .bad
  | .nev, _ => .bad
  | .aug i neg e, env => match cellAt env i with
    | some (.dat (.int j)) => (ev G e env).take.toS fun d e1 => (match d with
      | .int k => (match bindT (.name i) (.int (if neg then j - k else j + k)) e1 with
        | some e2 => .nx e2
        | none => .bad)
      | _ => .bad)
    | _ => .bad
  | .parl i m j, env => (evL G m env).toS fun ds e1 => if ds.length ≤ BIG ∧ freeB e1 i = true ∧ freeB e1 j = true ∧ i ≠ j then .nx ((e1.set i (some (.own ds))).set j (some (.own []))) else .bad
  | .parll i m j n, env => (evL G m env).toS fun ds e1 => if ds.length ≤ BIG then (evL G n e1).toS fun es e2 => if es.length ≤ BIG ∧ freeB e2 i = true ∧ freeB e2 j = true ∧ i ≠ j then .nx ((e2.set i (some (.own ds))).set j (some (.own es))) else .bad else .bad
  | .parl2 i j a, env => (ev G a env).take.toS fun d e1 => if freeB e1 i = true ∧ freeB e1 j = true ∧ i ≠ j then .nx ((e1.set j (some (.dat d))).set i (some (.own []))) else .bad
  | .parl3 i j a k b, env => (ev G a env).take.toS fun d e1 => (ev G b e1).take.toS fun d2 e2 => if freeB e2 i = true ∧ freeB e2 j = true ∧ freeB e2 k = true ∧ i ≠ j ∧ i ≠ k ∧ j ≠ k then .nx (((e2.set j (some (.dat d))).set k (some (.dat d2))).set i (some (.own []))) else .bad
  | .setL i ie e, env => (ev G e env).take.toS fun d e1 => if placeB e1 i then (ev G ie e1).rd.toS fun k e2 => (match k, e2[i]? with
      | .int k, some (some (.own ds)) => (match ixN ds.length k with
        | some j => .nx (e2.set i (some (.own (ds.set j d))))
        | none => .bad)
      | _, _ => .bad) else .bad
  | .raise C f e, env => (evs G [e] env).toS fun ds e1 => match ds with
    | [d] => .exc C f d e1
    | _ => .bad
  | .if_ t a b, env => (truR (ev G t env)).toS fun c e1 => if c then evSs G a e1 else evSs G b e1
  | .for_ tg it b, env => (evi G it env).toS fun ds e1 => forL tg (fun e => evSs G b e) ds e1
  | .dloop i tg it c j w k v ts, env => if hideB env i = true ∧ i < env.length ∧ i ∉ tgOwn tg ∧ i ≠ j then (evi G it (env.set i none)).toS fun xs e1 => dlL G i tg c j w k v ts xs [] [] e1 else .bad
  | .tryk j n e tab, env => match ev G e env with
    | .ok _ e1 => .nx e1
    | .exc C f d e1 => if tab.contains C = true ∧ freeB e1 j = true ∧ freeB e1 n = true ∧ j ≠ n then .nx ((e1.set n none).set j (some (.dat (.err C f d)))) else .bad
    | .bad => .bad
  | .whl t b, env => whlL (fun e => truR (ev G t e)) (fun e => evSs G b e) BIG env
  | .ret e, env => (ev G e env).take.toS fun d e1 => .rt d e1
  | .retn, env => .rt .non env
  | .pass, env => .nx env
  | .brk, env => .bk env
  | .cont, env => .ct env
def evSs (G : Ctx) : List ST → Env → SR
  | [], env => .nx env
  | s :: ss, env => (evS G s env).seq fun e => evSs G ss e
end
/-- what is owned later was owned or is new -/
structure SubS (σ : L2.St) (env : Env) (H : Hp) (σ' : L2.St) (env' : Env) : Prop where
  own : ∀ a, MutAt env' σ' a → MutAt env σ a ∨ ¬ Lv H a
  len : σ'.length = σ.length
theorem SubS.refl {σ : L2.St} {env : Env} {H : Hp} : SubS σ env H σ env := ⟨fun _ z => .inl z, rfl⟩
theorem Sub.toS {σ : L2.St} {env e1 : Env} {H : Hp} (u : Sub σ env e1) : SubS σ env H σ e1 := ⟨fun a z => .inl (u.own a z), rfl⟩
section
variable {K : PySem.W.Frag} {H0 H H1 H2 : Hp} {M0 A : AS} {env e1 e2 : Env} {σ σ1 σ2 : L2.St} {W : WX}
theorem Stp.sTrans (s : Stp (WW A env σ) H H1) (u : SubS σ env H σ1 e1) (s2 : Stp (WW A e1 σ1) H1 H2) : Stp (WW A env σ) H H2 := by
  refine ⟨fun a o e n t => s2.st a o (s.st a o e n t) (fun z => ?_) t, fun a h => s2.mo a (s.mo a h), fun P q m h => s2.tb P q m (s.tb P q m h), fun b fs h => s2.xd b fs (s.xd b fs h)⟩
  rcases z with z | z
  · exact n (.inl z)
  · rcases u.own a z with q | q
    · exact n (.inr q)
    · exact q ⟨o, e, t⟩
theorem SubS.trans (s : Stp (WW A env σ) H H1) (u : SubS σ env H σ1 e1) (u2 : SubS σ1 e1 H1 σ2 e2) : SubS σ env H σ2 e2 := by
  refine ⟨fun a z => ?_, u2.len.trans u.len⟩
  rcases u2.own a z with q | q
  · exact u.own a q
  · exact .inr fun w => q (s.mo a w)
/-- what follows a statement -/
def SatS (K : PySem.W.Frag) (H0 : Hp) (M0 A : AS) (W : WX) (r : SR) (env : Env) (σ : L2.St) (H : Hp) (D : Ends) : Prop := match r with
  | .nx e' => ∀ σ' H', Stp (WW A env σ) H H' → SubS σ env H σ' e' → EnvR K H0 M0 A e' σ' H' → D.nx σ' H'
  | .bk e' => ∀ σ' H', Stp (WW A env σ) H H' → SubS σ env H σ' e' → EnvR K H0 M0 A e' σ' H' → D.bk σ' H'
  | .ct e' => ∀ σ' H', Stp (WW A env σ) H H' → SubS σ env H σ' e' → EnvR K H0 M0 A e' σ' H' → D.ct σ' H'
  | .rt d e' => ∀ σ' v H', Stp (WW A env σ) H H' → SubS σ env H σ' e' → EnvR K H0 M0 A e' σ' H' → Rep K H' (MM M0 e' σ') d v → D.rt v H'
  | .rl ds e' => ∀ σ' p vs H', Stp (WW A env σ) H H' → SubS σ env H σ' e' → EnvR K H0 M0 A e' σ' H' → ¬ Lv H0 p → ¬ M0 p → H' p = some (.lst vs) → RepL K H' (fun a => M0 a ∨ a = p) ds vs → D.rt (.ref p) H'
  | .exc C f d e' => ∀ σ' dd v H', Stp (WW A env σ) H H' → SubS σ env H σ' e' → EnvR K H0 M0 A e' σ' H' → H' dd = some (.xd [(f, v)]) → Rep K H' (MM M0 e' σ') d v → W (.ref (clsAt K C)) (some dd) σ' H'
  | .bad => False
theorem SatS.go {r : SR} {D : Ends} (h : SatS K H0 M0 A W r env σ H D) (s : Stp (WW A env σ) H H1) (u : SubS σ env H σ1 e1) : SatS K H0 M0 A W r e1 σ1 H1 D := by
  cases r with
  | bad => exact h
  | nx e' => exact fun σ' H' s' u' E' => h σ' H' (s.sTrans u s') (u.trans s u') E'
  | bk e' => exact fun σ' H' s' u' E' => h σ' H' (s.sTrans u s') (u.trans s u') E'
  | ct e' => exact fun σ' H' s' u' E' => h σ' H' (s.sTrans u s') (u.trans s u') E'
  | rt d e' => exact fun σ' v H' s' u' E' => h σ' v H' (s.sTrans u s') (u.trans s u') E'
  | rl d e' => exact fun σ' p vs H' s' u' E' => h σ' p vs H' (s.sTrans u s') (u.trans s u') E'
  | exc C f d e' => exact fun σ' dd v H' s' u' E' => h σ' dd v H' (s.sTrans u s') (u.trans s u') E'
theorem SatS.toS {α : Type} {r : R α} {f : α → Env → SR} {D : Ends} (h : SatS K H0 M0 A W (r.toS f) env σ H D) : Sat K H0 M0 A W r env σ H fun a e1 H1 => SatS K H0 M0 A W (f a e1) e1 σ H1 D := by
  cases r with
  | bad => exact h
  | exc C f d e' => exact fun dd v H' s u E' => h σ dd v H' s u.toS E'
  | ok a e' => exact fun H' s u E' => SatS.go (show SatS K H0 M0 A W (f a e') env σ H D from h) s u.toS
end
section
variable {X : Cx} {G : Ctx} {W : WX}
def tS (G : Ctx) (W : WX) (K : PySem.W.Frag) (s : ST) : TS := fun D σ H => ∃ H0 M0 A env, EnvR K H0 M0 A env σ H ∧ SatS K H0 M0 A W (evS G s env) env σ H D
def tSs (G : Ctx) (W : WX) (K : PySem.W.Frag) (s : List ST) : TS := fun D σ H => ∃ H0 M0 A env, EnvR K H0 M0 A env σ H ∧ SatS K H0 M0 A W (evSs G s env) env σ H D
theorem PS.by_ {s : Stmt} {t t' : TS} (h : PS X s t) (i : ∀ D σ H, t' D σ H → t D σ H) : PS X s t' := ⟨fun pins s σ H D I q => h.run pins s σ H D I (i D σ H q)⟩
theorem PSs.by_ {s : List Stmt} {t t' : TS} (h : PSs X s t) (i : ∀ D σ H, t' D σ H → t D σ H) : PSs X s t' := ⟨fun pins s σ H D I q => h.run pins s σ H D I (i D σ H q)⟩
theorem take_readS {K : PySem.W.Frag} {H0 H : Hp} {M0 A : AS} {env : Env} {σ : L2.St} {i : IR} {f : D → Env → SR} {D : Ends} (E : EnvR K H0 M0 A env σ H) (q : SatS K H0 M0 A W ((ev G i env).take.toS f) env σ H D)
    {Q : VK} (k : ∀ d v e1 H1, EnvR K H0 M0 A e1 σ H1 → Rep K H1 (MM M0 e1 σ) d v → Stp (WW A env σ) H H1 → Sub σ env e1 → SatS K H0 M0 A W (f d e1) e1 σ H1 D → Q v H1) : tI G W K i σ H Q := by
  have q := SatS.toS q
  unfold R.take at q
  refine ⟨H0, M0, A, env, E, (Sat.bind q).mono fun o e1 H1 _ s1 u1 E1 h1 x hx => ?_⟩
  cases e : takeO e1 o with
  | none => rw [e] at h1; exact h1.elim
  | some p =>
    obtain ⟨d, e2⟩ := p
    rw [e] at h1
    obtain ⟨E2, rd, u2⟩ := E1.take hx e
    exact k d x e2 H1 E2 rd s1 (u1.trans u2) (h1 H1 Stp.refl u2 E2)
theorem rd_readS {K : PySem.W.Frag} {H0 H : Hp} {M0 A : AS} {env : Env} {σ : L2.St} {i : IR} {f : D → Env → SR} {D : Ends} (E : EnvR K H0 M0 A env σ H) (q : SatS K H0 M0 A W ((ev G i env).rd.toS f) env σ H D)
    {Q : VK} (k : ∀ d v e1 H1, EnvR K H0 M0 A e1 σ H1 → RepT K H1 (MM M0 e1 σ) d v → Stp (WW A env σ) H H1 → Sub σ env e1 → SatS K H0 M0 A W (f d e1) e1 σ H1 D → Q v H1) : tI G W K i σ H Q := by
  have q := SatS.toS q
  unfold R.rd at q
  refine ⟨H0, M0, A, env, E, (Sat.bind q).mono fun o e1 H1 _ s1 u1 E1 h1 x hx => ?_⟩
  cases e : rdO e1 o with
  | none => rw [e] at h1; exact h1.elim
  | some d =>
    rw [e] at h1
    exact k d x e1 H1 E1 (hx.rdT E1 e) s1 u1 (h1 H1 Stp.refl Sub.refl E1)
theorem st_expr {e : Expr} {i : IR} {pos : Pos} (he : PE X e (tI G W X.K i)) (hs : swapsWith e none pos.line X.env = pure false) : PS X (.Expr e pos) (tS G W X.K (.expr i)) := PS.by_ (ps_expr he hs) fun D σ H q => by
  obtain ⟨H0, M0, A, env, E, q⟩ := q
  rw [evS] at q
  exact ⟨H0, M0, A, env, E, (SatS.toS q).mono fun o e1 H1 _ s1 u1 E1 h1 v hv => h1 σ H1 Stp.refl SubS.refl E1⟩
theorem st_asg {tgE e : Expr} {tg : Tgt} {i : IR} {pos : Pos} (h : PS X (.Assign [tgE] e pos) (tAsg (tI G W X.K i) (gT X.K tg))) : PS X (.Assign [tgE] e pos) (tS G W X.K (.asg tg i)) := PS.by_ h fun D σ H q => by
  obtain ⟨H0, M0, A, env, E, q⟩ := q
  rw [evS] at q
  refine take_readS E q fun d v e1 H1 E1 rd s1 u1 h1 => ?_
  cases hb : bindT tg d e1 with
  | none => rw [hb] at h1; exact h1.elim
  | some e2 =>
    rw [hb] at h1
    exact tgt_read E1 hb rd fun σ' E' u' l' o' => h1 σ' H1 Stp.refl ⟨fun a z => .inl (u' a z), l'⟩ E'
theorem st_ret {e : Expr} {i : IR} {pos : Pos} (he : PE X e (tI G W X.K i)) : PS X (.Return (some e) pos) (tS G W X.K (.ret i)) := PS.by_ (ps_ret he) fun D σ H q => by
  obtain ⟨H0, M0, A, env, E, q⟩ := q
  rw [evS] at q
  exact take_readS E q fun d v e1 H1 E1 rd s1 u1 h1 => h1 σ v H1 Stp.refl SubS.refl E1 rd
/-- raise X(e): the error's own dict d is new and holds the field f -/
def tRaiseE (C : Addr) (f : Str) (W : WX) (ta : TA) : TS := fun _ σ H => ta σ H fun vs H1 => ∃ v, vs = [v] ∧ ∀ d, H1 d = none → W (.ref C) (some d) σ (upd H1 d (.xd [(f, v)]))
theorem st_raise {s : Stmt} {C f : Str} {i : IR} (h : PS X s (tRaiseE (clsAt X.K C) f W (tIs G W X.K [i]))) : PS X s (tS G W X.K (.raise C f i)) := PS.by_ h fun D σ H q => by
  obtain ⟨H0, M0, A, env, E, q⟩ := q
  rw [evS] at q
  refine ⟨H0, M0, A, env, E, (SatS.toS q).mono fun ds e1 H1 _ s1 u1 E1 h1 vs hv => ?_⟩
  cases ds with
  | nil => exact h1.elim
  | cons d ds =>
    cases ds with
    | cons _ _ => exact h1.elim
    | nil =>
      unfold RepL at hv
      obtain ⟨v, ys, rfl, rv, hn⟩ := hv
      unfold RepL at hn
      subst hn
      exact ⟨v, rfl, fun p hp => h1 σ p v _ (Stp.new hp) SubS.refl (E1.new hp) upd_same (Rep.stp (Stp.new hp) (fun _ z => z) d v rv)⟩
theorem ss_nil : PSs X [] (tSs G W X.K []) := PSs.by_ pss_nil fun D σ H q => by
  obtain ⟨H0, M0, A, env, E, q⟩ := q
  rw [evSs] at q
  exact q σ H Stp.refl SubS.refl E
theorem seq_read {K : PySem.W.Frag} {H0 H : Hp} {M0 A : AS} {env : Env} {σ : L2.St} {r : SR} {ss : List ST} {D : Ends} (q : SatS K H0 M0 A W (r.seq fun e => evSs G ss e) env σ H D) : SatS K H0 M0 A W r env σ H { D with nx := tSs G W K ss D } := by
  cases r with
  | nx e' => exact fun σ' H' s u E' => ⟨H0, M0, A, e', E', SatS.go (show SatS K H0 M0 A W (evSs G ss e') env σ H D from q) s u⟩
  | _ => exact q
theorem ss_cons {s : Stmt} {ss : List Stmt} {t : ST} {ts : List ST} (h1 : PS X s (tS G W X.K t)) (h2 : PSs X ss (tSs G W X.K ts)) : PSs X (s :: ss) (tSs G W X.K (t :: ts)) := PSs.by_ (pss_cons h1 h2) fun D σ H q => by
  obtain ⟨H0, M0, A, env, E, q⟩ := q
  rw [evSs] at q
  exact ⟨H0, M0, A, env, E, seq_read q⟩
theorem st_if {c : Expr} {a b : List Stmt} {t : IR} {as bs : List ST} {pos : Pos} (hc : PT X c (tIt G W X.K t)) (ha : PSs X a (tSs G W X.K as)) (hb : PSs X b (tSs G W X.K bs)) : PS X (.If c a b pos) (tS G W X.K (.if_ t as bs)) := PS.by_ (ps_if hc ha hb) fun D σ H q => by
  obtain ⟨H0, M0, A, env, E, q⟩ := q
  rw [evS] at q
  refine ⟨H0, M0, A, env, E, (SatS.toS q).mono fun b e1 H1 _ s1 u1 E1 h1 => ?_⟩
  cases b with
  | true => exact ⟨H0, M0, A, e1, E1, h1⟩
  | false => exact ⟨H0, M0, A, e1, E1, h1⟩
end
end Mp
set_option maxHeartbeats 4000000
namespace Mp
open PySem L2
variable [TabsW] [GdW]
section
variable {X : Cx} {G : Ctx} {W : WX}
theorem for_reads {K : PySem.W.Frag} {H0 H1 : Hp} {M0 A : AS} {e1 : Env} {σ : L2.St} {tg : Tgt} {b : List ST} {ds : List D} {J : L2.It} {D : Ends} (E1 : EnvR K H0 M0 A e1 σ H1) (gJ : Goes K (MM M0 e1 σ) (WW A e1 σ) H1 J ds)
    (q : SatS K H0 M0 A W (forL tg (fun e => evSs G b e) ds e1) e1 σ H1 D) :
    ∃ Wd : Nat → Nat → L2.St → Hp → Prop, (∃ m, Wd 0 m σ H1) ∧ ∀ i m σ H, Wd i m σ H →
      (J.stop i H ∧ D.nx σ H) ∨ (J.go i H ∧ ∃ N : L2.St → Hp → Prop, (∀ σ' H', N σ' H' → ∃ m', m' < m ∧ Wd (i + 1) m' σ' H') ∧ ∀ x H', J.yld i H x H' → gT K tg x σ H' fun σ2 H2 => tSs G W K b { D with nx := N, ct := N, bk := D.nx } σ2 H2) := by
  obtain ⟨Gd, Y, wk, hGd, hY⟩ := gJ
  refine L2.for_it wk (fun i σi Hi => ∃ envi, EnvR K H0 M0 A envi σi Hi ∧ Stp (WW A e1 σ) H1 Hi ∧ SubS σ e1 H1 σi envi ∧ SatS K H0 M0 A W (forL tg (fun e => evSs G b e) (ds.drop i) envi) envi σi Hi D) ⟨e1, E1, Stp.refl, SubS.refl, q⟩
    (fun i σ H _ ⟨_, _, s, _⟩ => hGd H s) (fun i x σi H H' hi ⟨envi, Ei, si, ui, qi⟩ y => ?_) fun σi H ⟨envi, Ei, si, ui, qi⟩ => ?_
  · have hM : ∀ a, MM M0 envi σi a → (MM M0 e1 σ a ∨ ¬ Lv H1 a) ∧ Lv H a := fun a z => by
      rcases z with z | z
      · exact ⟨.inl (.inl z), Ei.m0 a z⟩
      · refine ⟨(ui.own a z).elim (fun q => .inl (.inr q)) .inr, ?_⟩
        obtain ⟨j, es, z1, z2⟩ := z
        obtain ⟨b, zs, b1, b2, _⟩ := Ei.own j es z1
        rw [z2] at b1; cases b1
        exact Lv.lst b2
    obtain ⟨st, d, hd, rd⟩ := hY i H x H' _ hi si hM y
    have hdrop : ds.drop i = d :: ds.drop (i + 1) := by
      rw [List.drop_eq_getElem_cons hi]
      congr 1
      have := List.getElem?_eq_getElem hi
      rw [hd] at this; exact (Option.some.inj this).symm
    rw [hdrop, forL] at qi
    cases hb : bindT tg d envi with
    | none => rw [hb] at qi; exact qi.elim
    | some env2 =>
      rw [hb] at qi
      dsimp only at qi
      refine tgt_read (Ei.keep st) hb rd fun σ' E' u' l' o' => ⟨H0, M0, A, env2, E', ?_⟩
      have w : ∀ a, WW A env2 σ' a → WW A envi σi a := fun a z => z.elim .inl fun q => .inr (u' a q)
      have nxt : ∀ {e2 : Env} {σ2 : L2.St} {H2 : Hp}, Stp (WW A env2 σ') H' H2 → SubS σ' env2 H' σ2 e2 → Stp (WW A envi σi) H H2 ∧ SubS σi envi H σ2 e2 := fun {e2 σ2 H2} s2 u2 => by
        refine ⟨st.no.trans (s2.weak w), fun a z => ?_, u2.len.trans l'⟩
        rcases u2.own a z with q | q
        · exact .inl (u' a q)
        · exact .inr fun w => q (st.mo a w)
      cases hr : evSs G b env2 with
      | bad => rw [hr] at qi; exact qi.elim
      | nx e2 =>
        rw [hr] at qi
        intro σ2 H2 s2 u2 E2
        obtain ⟨s3, u3⟩ := nxt s2 u2
        exact ⟨e2, E2, si.sTrans ui s3, ui.trans si u3, SatS.go qi s3 u3⟩
      | ct e2 =>
        rw [hr] at qi
        intro σ2 H2 s2 u2 E2
        obtain ⟨s3, u3⟩ := nxt s2 u2
        exact ⟨e2, E2, si.sTrans ui s3, ui.trans si u3, SatS.go qi s3 u3⟩
      | bk e2 =>
        rw [hr] at qi
        intro σ2 H2 s2 u2 E2
        obtain ⟨s3, u3⟩ := nxt s2 u2
        exact qi σ2 H2 s3 u3 E2
      | rt d e2 =>
        rw [hr] at qi
        intro σ2 v H2 s2 u2 E2
        obtain ⟨s3, u3⟩ := nxt s2 u2
        exact qi σ2 v H2 s3 u3 E2
      | rl d e2 =>
        rw [hr] at qi
        intro σ2 p vs H2 s2 u2 E2
        obtain ⟨s3, u3⟩ := nxt s2 u2
        exact qi σ2 p vs H2 s3 u3 E2
      | exc C f d e2 =>
        rw [hr] at qi
        intro σ2 dd v H2 s2 u2 E2
        obtain ⟨s3, u3⟩ := nxt s2 u2
        exact qi σ2 dd v H2 s3 u3 E2
  · rw [List.drop_length, forL] at qi
    exact qi σi H Stp.refl SubS.refl Ei
theorem st_for {tgE iter : Expr} {body : List Stmt} {tg : Tgt} {it : IT} {b : List ST} {pos : Pos} (h : PS X (.For tgE iter body [] pos) (tFor (tIi G W X.K it) (gT X.K tg) (tSs G W X.K b))) : PS X (.For tgE iter body [] pos) (tS G W X.K (.for_ tg it b)) := PS.by_ h fun D σ H q => by
  obtain ⟨H0, M0, A, env, E, q⟩ := q
  rw [evS] at q
  exact ⟨H0, M0, A, env, E, (SatS.toS q).mono fun ds e1 H1 _ s1 u1 E1 h1 J gJ => for_reads E1 (gJ.weak (WW.sub E1.aM)) h1⟩
/-- a new list of one's own in a slot -/
theorem EnvR.setNew {K : PySem.W.Frag} {H0 H : Hp} {M0 A : AS} {env : Env} {σ : L2.St} (E : EnvR K H0 M0 A env σ H) {i : Nat} {ds : List D} {vs : List V} {p : Addr} {H' : Hp} (hf : freeB env i = true) (hp : ¬ Lv H p) (s : Stp NoA H H') (h' : H' p = some (.lst vs)) (r : RepL K H' (fun a => MM M0 env σ a ∨ a = p) ds vs) :
    EnvR K H0 M0 A (env.set i (some (.own ds))) (σ.set i (some (.ref p))) H' ∧ SubS σ env H (σ.set i (some (.ref p))) (env.set i (some (.own ds))) := by
  have hi := free_lt hf
  have hi' : i < σ.length := by rw [← E.len]; exact hi
  obtain ⟨n1, n2⟩ := E.freshL hp
  have other : ∀ {j c}, (env.set i (some (Cell.own ds)))[j]? = some (some c) → (i = j ∧ c = .own ds) ∨ (i ≠ j ∧ env[j]? = some (some c) ∧ (σ.set i (some (V.ref p)))[j]? = σ[j]?) := fun {j c} e1 => by
    by_cases hj : i = j
    · subst hj; rw [List.getElem?_set_self hi] at e1; cases e1; exact .inl ⟨rfl, rfl⟩
    · rw [List.getElem?_set_ne hj] at e1; exact .inr ⟨hj, e1, List.getElem?_set_ne hj⟩
  have mutI : ∀ b, MutAt (env.set i (some (Cell.own ds))) (σ.set i (some (V.ref p))) b → MutAt env σ b ∨ b = p := fun b ⟨j, es, e1, e2⟩ => by
    rcases other e1 with ⟨rfl, _⟩ | ⟨hj, e1, e3⟩
    · rw [List.getElem?_set_self hi'] at e2; cases e2; exact .inr rfl
    · rw [e3] at e2; exact .inl ⟨j, es, e1, e2⟩
  have subM : ∀ b, MM M0 (env.set i (some (Cell.own ds))) (σ.set i (some (V.ref p))) b → MM M0 env σ b ∨ b = p := fun b z => z.elim (fun q => .inl (.inl q)) fun q => (mutI b q).elim (fun q => .inl (.inr q)) .inr
  have gr : ∀ b, (MM M0 env σ b ∨ b = p) → MM M0 env σ b ∨ ¬ Lv H b := fun b z => z.elim .inl fun q => .inr (by rw [q]; exact hp)
  have rep : ∀ {d v}, Rep K H (MM M0 env σ) d v → Rep K H' (MM M0 (env.set i (some (Cell.own ds))) (σ.set i (some (V.ref p)))) d v := fun {d v} r => Rep.stp s.no subM d v (Rep.grow gr d v r)
  have repL : ∀ {es xs}, RepL K H (MM M0 env σ) es xs → RepL K H' (MM M0 (env.set i (some (Cell.own ds))) (σ.set i (some (V.ref p)))) es xs := fun {es xs} r => RepL.stp s.no subM es xs (RepL.grow gr es xs r)
  refine ⟨⟨by rw [List.length_set, List.length_set]; exact E.len, fun b o e n t => ?_, fun b h => s.mo b (E.alive b h), fun P q h => s.tb P q h (E.tb P q h), fun b hb => s.mo b (E.m0 b hb), E.aM, E.a1, fun j d' e1 => ?_, fun j es e1 => ?_, fun j es e1 => ?_, fun j k b es fs e1 e2 e3 e4 => ?_, fun j k es fs e1 e2 => ?_, fun j C ns es e1 => ?_⟩, fun b z => ?_, List.length_set⟩
  · exact s.st b o (E.old b o e n t) id t
  · rcases other e1 with ⟨rfl, e⟩ | ⟨hj, e1, e3⟩
    · cases e
    · obtain ⟨v, a1, a2⟩ := E.dat j d' e1
      exact ⟨v, e3.trans a1, rep a2⟩
  · rcases other e1 with ⟨rfl, e⟩ | ⟨hj, e1, e3⟩
    · cases e
      exact ⟨p, vs, List.getElem?_set_self hi', h', RepL.stp Stp.refl subM ds vs r, fun z => n1 (.inl z), n2⟩
    · obtain ⟨b, zs, a1, a2, a3, a4⟩ := E.own j es e1
      exact ⟨b, zs, e3.trans a1, s.st b _ a2 id nt_lst, repL a3, a4⟩
  · rcases other e1 with ⟨rfl, e⟩ | ⟨hj, e1, e3⟩
    · cases e
    · obtain ⟨b, zs, a1, a2, a3, a4⟩ := E.io j es e1
      exact ⟨b, zs, e3.trans a1, a2, s.st b _ a3 id nt_lst, repL a4⟩
  · have pn : ∀ {j es}, env[j]? = some (some (Cell.own es)) → σ[j]? = some (some (V.ref p)) → False := fun {j es} h1 h2 => by
      obtain ⟨b, zs, a1, a2, _⟩ := E.own j es h1
      rw [h2] at a1; cases a1
      exact hp (Lv.lst a2)
    rcases other e1 with ⟨rfl, e⟩ | ⟨hj, e1, e5⟩
    · rw [List.getElem?_set_self hi'] at e3; cases e3
      rcases other e2 with ⟨rfl, _⟩ | ⟨_, e2, e6⟩
      · rfl
      · rw [e6] at e4; exact (pn e2 e4).elim
    · rw [e5] at e3
      rcases other e2 with ⟨rfl, _⟩ | ⟨_, e2, e6⟩
      · rw [List.getElem?_set_self hi'] at e4; cases e4
        exact (pn e1 e3).elim
      · rw [e6] at e4
        exact E.inj j k b es fs e1 e2 e3 e4
  · rcases other e1 with ⟨rfl, e⟩ | ⟨_, e1, _⟩
    · cases e
    · rcases other e2 with ⟨rfl, e⟩ | ⟨_, e2, _⟩
      · cases e
      · exact E.io1 j k es fs e1 e2
  · rcases other e1 with ⟨rfl, e⟩ | ⟨_, e1, _⟩
    · cases e
    · exact E.slf j C ns es e1
  · rcases mutI b z with q | q
    · exact .inl q
    · exact .inr (by rw [q]; exact hp)
def tIl (G : Ctx) (W : WX) (K : PySem.W.Frag) (m : LM) : TE := fun σ H Q => ∃ H0 M0 A env, EnvR K H0 M0 A env σ H ∧ Sat K H0 M0 A W (evL G m env) env σ H fun ds e1 H1 => ds.length ≤ BIG ∧ ∀ vs p H', Stp NoA H1 H' → ¬ Lv H1 p → H' p = some (.lst vs) → RepL K H' (fun a => MM M0 e1 σ a ∨ a = p) ds vs → Q (.ref p) H'
theorem new_rep {K : PySem.W.Frag} {H : Hp} {M : AS} {p : Addr} {ds : List D} {vs : List V} (hp : H p = none) (r : RepL K H M ds vs) : RepL K (upd H p (.lst vs)) (fun a => M a ∨ a = p) ds vs :=
  RepL.stp (Stp.new hp) (fun _ z => z) ds vs (RepL.grow (fun a z => z.elim .inl fun q => .inr (by rw [q]; exact nn_of hp)) ds vs r)
theorem l_lst {es : List Expr} {is : List IR} {pos : Pos} (h : PA X es (tIs G W X.K is)) : PE X (.List es pos) (tIl G W X.K (.lst is)) := PE.by_ (pe_lst h) fun σ H Q q => by
  obtain ⟨H0, M0, A, env, E, q⟩ := q
  rw [evL] at q
  refine ⟨H0, M0, A, env, E, q.mono fun ds e1 H1 _ s1 u1 E1 h1 xs hx => ?_⟩
  have hs : sizeLine = 16777216 := sizeLine_eq
  exact ⟨by rw [← hx.length]; have := h1.1; unfold BIG at this; omega, fun p hp => h1.2 xs p _ (Stp.new hp) (nn_of hp) upd_same (new_rep hp hx)⟩
theorem st_new {tgE e : Expr} {i : Nat} {m : LM} {pos : Pos} (h : PS X (.Assign [tgE] e pos) (tAsg (tIl G W X.K m) (gName i))) : PS X (.Assign [tgE] e pos) (tS G W X.K (.new i m)) := PS.by_ h fun D σ H q => by
  obtain ⟨H0, M0, A, env, E, q⟩ := q
  rw [evS] at q
  refine ⟨H0, M0, A, env, E, (SatS.toS q).mono fun ds e1 H1 _ s1 u1 E1 h1 => ?_⟩
  by_cases hc : ds.length ≤ BIG ∧ freeB e1 i = true
  · rw [if_pos hc] at h1
    refine ⟨hc.1, fun vs p H' s hp h' r => ?_⟩
    obtain ⟨E2, u2⟩ := E1.setNew hc.2 hp s h' r
    exact h1 _ _ s.no u2 E2
  · rw [if_neg hc] at h1; exact h1.elim
end
end Mp
set_option maxHeartbeats 4000000
namespace Mp
open PySem L2 PyProof.Rows
variable [TabsW] [GdW]
section
variable {X : Cx} {G : Ctx} {W : WX}
theorem ix_in' {n : Nat} {k : Int} (h0 : 0 ≤ k) (h1 : k < n) : ixN n k = some k.toNat := by
  unfold ixN
  rw [if_pos h0, if_pos h1]
theorem place_at {K : PySem.W.Frag} {H0 H : Hp} {M0 A : AS} {env : Env} {σ : L2.St} {i : Nat} (E : EnvR K H0 M0 A env σ H) (h : placeB env i = true) : ∃ a, σ[i]? = some (some (V.ref a)) := by
  unfold placeB at h
  cases e : env[i]? with
  | none => rw [e] at h; cases h
  | some o =>
    rw [e] at h
    cases o with
    | none => cases h
    | some c =>
      cases c with
      | own ds => obtain ⟨a, xs, g, _⟩ := E.own i ds e; exact ⟨a, g⟩
      | io ds => obtain ⟨a, xs, g, _⟩ := E.io i ds e; exact ⟨a, g⟩
      | _ => cases h
theorem st_six {tgE e : Expr} {i : Nat} {ie e' : IR} {pos : Pos} (h : PS X (.Assign [tgE] e pos) (tAsg (tI G W X.K e') (gSub (tVar i) (tI G W X.K ie) rSetL))) : PS X (.Assign [tgE] e pos) (tS G W X.K (.six i ie e')) := PS.by_ h fun D σ H q => by
  obtain ⟨H0, M0, A, env, E, q⟩ := q
  rw [evS] at q
  refine take_readS E q fun d v e1 H1 E1 rd s1 u1 h1 => ?_
  by_cases ho : placeB e1 i = true
  · rw [if_pos ho] at h1
    obtain ⟨a, g1⟩ := place_at E1 ho
    refine ⟨_, g1, rd_readS E1 h1 fun k kv e2 H2 E2 rk s2 u2 h2 => ?_⟩
    have rd2 := hold rd E1.aM s2 u2
    cases k with
    | int k =>
      cases h3 : e2[i]? with
      | none => rw [h3] at h2; exact h2.elim
      | some c =>
        rw [h3] at h2
        cases c with
        | none => exact h2.elim
        | some c =>
          cases c with
          | own ds' =>
            dsimp only at h2
            by_cases hk : 0 ≤ k ∧ k < ds'.length
            · rw [if_pos hk] at h2
              obtain ⟨a', xs', f1, f2, f3, f4⟩ := E2.own i ds' h3
              rw [g1] at f1; cases f1
              refine ⟨a, xs', k, k.toNat, rfl, rk.int, f2, ix_in' hk.1 (by rw [← f3.length]; exact hk.2), ?_⟩
              have st : Stp (fun x => x = a) H2 (upd H2 a (.lst (xs'.set k.toNat v))) := Stp.set rfl (pl_at f2)
              have stM : Stp (MM M0 e2 σ) H2 (upd H2 a (.lst (xs'.set k.toNat v))) := st.weak fun x z => z ▸ .inr ⟨i, ds', h3, g1⟩
              obtain ⟨E3, u3, _⟩ := E2.setOwn h3 g1 st upd_same (out := ds'.set k.toNat d) ((RepL.stp stM (fun _ z => z) ds' xs' f3).set (Rep.stp stM (fun _ z => z) d v rd2))
              exact h2 σ _ (st.weak fun x z => z ▸ .inr ⟨i, ds', h3, g1⟩) u3.toS E3
            · rw [if_neg hk] at h2; exact h2.elim
          | io ds' =>
            dsimp only at h2
            by_cases hk : 0 ≤ k ∧ k < ds'.length
            · rw [if_pos hk] at h2
              obtain ⟨a', xs', f1, f0, f2, f3⟩ := E2.io i ds' h3
              rw [g1] at f1; cases f1
              refine ⟨a, xs', k, k.toNat, rfl, rk.int, f2, ix_in' hk.1 (by rw [← f3.length]; exact hk.2), ?_⟩
              have st : Stp (fun x => x = a) H2 (upd H2 a (.lst (xs'.set k.toNat v))) := Stp.set rfl (pl_at f2)
              have stM : Stp (MM M0 e2 σ) H2 (upd H2 a (.lst (xs'.set k.toNat v))) := st.weak fun x z => z ▸ .inl (E2.aM a f0)
              obtain ⟨E3, u3, _⟩ := E2.setIo h3 g1 st upd_same (out := ds'.set k.toNat d) ((RepL.stp stM (fun _ z => z) ds' xs' f3).set (Rep.stp stM (fun _ z => z) d v rd2))
              exact h2 σ _ (st.weak fun x z => z ▸ .inl f0) u3.toS E3
            · rw [if_neg hk] at h2; exact h2.elim
          | _ => exact h2.elim
    | _ => exact h2.elim
  · rw [if_neg ho] at h1; exact h1.elim
end
def cellF (io : Option Nat) (i : Nat) (d : D) : Option Cell := if io = some i then (match d with
  | .lst es => some (.io es)
  | _ => none) else some (.dat d)
def cellsF (io : Option Nat) : Nat → List D → Env
  | _, [] => []
  | i, d :: ds => cellF io i d :: cellsF io (i + 1) ds
def startE (io : Option Nat) (m : Nat) (ds : List D) : Env := cellsF io 0 ds ++ List.replicate (m - ds.length) none
def outE (io : Option Nat) (e : Env) : Option (List D) := match io with
  | none => some []
  | some i => match e[i]? with
    | some (some (.io ds)) => some ds
    | _ => none
/-- what a def with the body b yields: m slots -/
def semB (G : Ctx) (m : Nat) (io : Option Nat) (b : List ST) (ds : List D) : FR := match evSs G b (startE io m ds) with
  | .rt d e => (match outE io e with
    | some out => .ok d out
    | none => .bad)
  | .nx e => (match outE io e with
    | some out => .ok .non out
    | none => .bad)
  | .rl ds e => (match outE io e with
    | some out => .ok (.lst ds) out
    | none => .bad)
  | .exc C f d e => (match outE io e with
    | some out => .exc C f d out
    | none => .bad)
  | _ => .bad
theorem cells_get {io : Option Nat} : ∀ {ds : List D} {n j : Nat} {c : Cell}, (cellsF io n ds)[j]? = some (some c) → ∃ d, ds[j]? = some d ∧ cellF io (n + j) d = some c
  | [], n, j, c, h => by unfold cellsF at h; simp at h
  | d :: ds, n, 0, c, h => by
    unfold cellsF at h
    simp only [List.getElem?_cons_zero, Option.some.injEq] at h
    exact ⟨d, by simp, h⟩
  | d :: ds, n, j + 1, c, h => by
    unfold cellsF at h
    rw [List.getElem?_cons_succ] at h
    obtain ⟨e, e1, e2⟩ := cells_get h
    exact ⟨e, by simpa using e1, by rw [show n + (j + 1) = n + 1 + j by omega]; exact e2⟩
theorem cells_len {io : Option Nat} : ∀ {ds : List D} {n : Nat}, (cellsF io n ds).length = ds.length
  | [], n => rfl
  | d :: ds, n => by unfold cellsF; simp [cells_len]
theorem start_get {io : Option Nat} {m : Nat} {ds : List D} {j : Nat} {c : Cell} (h : (startE io m ds)[j]? = some (some c)) : ∃ d, ds[j]? = some d ∧ cellF io j d = some c := by
  unfold startE at h
  by_cases hj : j < (cellsF io 0 ds).length
  · rw [List.getElem?_append_left hj] at h
    obtain ⟨d, a, b⟩ := cells_get h
    exact ⟨d, a, by rw [Nat.zero_add] at b; exact b⟩
  · rw [List.getElem?_append_right (by omega)] at h
    rw [List.getElem?_replicate] at h
    split at h <;> cases h
theorem start_at {N : List Str} {vs : List V} {j : Nat} {v : V} (h : vs[j]? = some v) : (L2.start N vs)[j]? = some (some v) := by
  unfold L2.start
  have hj : j < vs.length := (List.getElem?_eq_some_iff.mp h).1
  rw [List.getElem?_append_left (by simpa using hj), List.getElem?_map, h]
  rfl
section
variable {K : PySem.W.Frag} {G : Ctx}
theorem env0 {H : Hp} {M : AS} {io : Option Nat} {ds : List D} {vs : List V} {N : List Str} (hl : vs.length ≤ N.length) (hM : MOk M H) (ar : ArgR K H M io ds vs) : EnvR K H M (IoA io vs) (startE io N.length ds) (L2.start N vs) H ∧ ∀ a, ¬ MutAt (startE io N.length ds) (L2.start N vs) a := by
  obtain ⟨len, at_⟩ := ar
  have cells : ∀ {j c}, (startE io N.length ds)[j]? = some (some c) → ∃ d v, ds[j]? = some d ∧ vs[j]? = some v ∧ cellF io j d = some c := fun {j c} h => by
    obtain ⟨d, a, b⟩ := start_get h
    have hj : j < vs.length := by rw [← len]; exact (List.getElem?_eq_some_iff.mp a).1
    exact ⟨d, vs[j], a, List.getElem?_eq_getElem hj, b⟩
  have noM : ∀ a, ¬ MutAt (startE io N.length ds) (L2.start N vs) a := fun a ⟨j, es, e1, e2⟩ => by
    obtain ⟨d, v, h1, h2, h3⟩ := cells e1
    unfold cellF at h3
    split at h3
    · split at h3 <;> cases h3
    · cases h3
  have subM : ∀ a, MM M (startE io N.length ds) (L2.start N vs) a → M a := fun a z => z.elim id fun q => (noM a q).elim
  have isIo : ∀ {j es}, (startE io N.length ds)[j]? = some (some (Cell.io es)) → io = some j ∧ ds[j]? = some (.lst es) ∧ ∃ v, vs[j]? = some v := fun {j es} h => by
    obtain ⟨d, v, h1, h2, h3⟩ := cells h
    unfold cellF at h3
    split at h3
    · rename_i hio
      split at h3
      · cases h3; exact ⟨hio, h1, v, h2⟩
      · cases h3
    · cases h3
  refine ⟨⟨?_, fun a o h _ _ => h, fun _ h => h, hM.tb, hM.al, fun a ⟨i, e1, e2⟩ => ?_, fun a b ⟨i, e1, e2⟩ ⟨j, f1, f2⟩ => ?_, fun j d h => ?_, fun j es h => ?_, fun j es h => ?_, fun j k a es fs h1 h2 h3 h4 => ?_, fun j k es fs h1 h2 => ?_, fun j C ns es h => ?_⟩, noM⟩
  · unfold startE L2.start
    rw [List.length_append, cells_len, List.length_replicate, List.length_append, List.length_map, List.length_replicate, len]
  · have hj : i < ds.length := by rw [len]; exact (List.getElem?_eq_some_iff.mp e2).1
    obtain ⟨a', xs, es, _, z, m, _⟩ := (at_ i ds[i] _ (List.getElem?_eq_getElem hj) e2).2 e1
    cases z; exact m
  · rw [e1] at f1; cases f1
    rw [e2] at f2; cases f2
    rfl
  · obtain ⟨d', v, h1, h2, h3⟩ := cells h
    unfold cellF at h3
    split at h3
    · split at h3 <;> cases h3
    · rename_i hio
      cases h3
      exact ⟨v, start_at h2, Rep.stp Stp.refl subM d v ((at_ j d v h1 h2).1 hio)⟩
  · obtain ⟨d', v, h1, h2, h3⟩ := cells h
    unfold cellF at h3
    split at h3
    · split at h3 <;> cases h3
    · cases h3
  · obtain ⟨hio, h1, v, h2⟩ := isIo h
    obtain ⟨a, xs, es', z1, z2, z3, z4, z5⟩ := (at_ j _ v h1 h2).2 hio
    cases z1
    subst z2
    exact ⟨a, xs, start_at h2, ⟨j, hio, h2⟩, z4, RepL.stp Stp.refl subM es xs z5⟩
  · exact (noM a ⟨j, es, h1, h3⟩).elim
  · have a1 := (isIo h1).1
    have a2 := (isIo h2).1
    rw [a1] at a2
    exact Option.some.inj a2
  · obtain ⟨d', v, h1, h2, h3⟩ := cells h
    unfold cellF at h3
    split at h3
    · split at h3 <;> cases h3
    · cases h3
/-- from a promise to the reading of the body -/
theorem body_read {n : Nat} {io : Option Nat} {b : List ST} {N : List Str} {vs : List V} {H : Hp} {Q : VK} {E : XK} (hn : n ≤ N.length) (h : spF K n io (semB G N.length io b) vs H Q E) :
    tSs G (fun cls d _ H' => E cls d H') K b { nx := fun _ H' => Q .non H', rt := Q } (L2.start N vs) H := by
  obtain ⟨hl, M, ds, hM, ar, h⟩ := h
  obtain ⟨E0, noM⟩ := env0 (N := N) (by rw [hl]; exact hn) hM ar
  have fl : ∀ {e' : Env} {σ' : L2.St} {H' : Hp} {out : List D}, Stp (WW (IoA io vs) (startE io N.length ds) (L2.start N vs)) H H' → EnvR K H M (IoA io vs) e' σ' H' → outE io e' = some out → Stp (IoA io vs) H H' ∧ OutR K H' M io out vs := fun {e' σ' H' out} s E' ho => by
    refine ⟨s.weak fun a z => z.elim id fun q => (noM a q).elim, fun i hi => ?_⟩
    subst hi
    unfold outE at ho
    dsimp only at ho
    cases q : e'[i]? with
    | none => rw [q] at ho; cases ho
    | some c =>
      rw [q] at ho
      cases c with
      | none => cases ho
      | some c =>
        cases c with
        | io es =>
          cases ho
          obtain ⟨a, xs, a1, ⟨j, b1, b2⟩, a3, a4⟩ := E'.io i out q
          cases b1
          exact ⟨a, xs, b2, a3, RepL.stp Stp.refl (fun _ z => .inl z) out xs a4⟩
        | _ => cases ho
  refine ⟨H, M, IoA io vs, startE io N.length ds, E0, ?_⟩
  unfold semB at h
  cases hr : evSs G b (startE io N.length ds) with
  | bad => rw [hr] at h; exact h.elim
  | bk e => rw [hr] at h; exact h.elim
  | ct e => rw [hr] at h; exact h.elim
  | nx e =>
    rw [hr] at h
    dsimp only at h
    cases ho : outE io e with
    | none => rw [ho] at h; exact h.elim
    | some out =>
      rw [ho] at h
      intro σ' H' s u E'
      obtain ⟨f1, f2⟩ := fl s E' ho
      exact h .non H' f1 f2 rep_non
  | rt d e =>
    rw [hr] at h
    dsimp only at h
    cases ho : outE io e with
    | none => rw [ho] at h; exact h.elim
    | some out =>
      rw [ho] at h
      intro σ' v H' s u E' r
      obtain ⟨f1, f2⟩ := fl s E' ho
      exact h v H' f1 f2 (Rep.stp Stp.refl (fun _ z => .inl z) d v r)
  | rl d e =>
    rw [hr] at h
    dsimp only at h
    cases ho : outE io e with
    | none => rw [ho] at h; exact h.elim
    | some out =>
      rw [ho] at h
      intro σ' p vs H' s u E' h0 hM hp r
      obtain ⟨f1, f2⟩ := fl s E' ho
      refine h (.ref p) H' f1 f2 ?_
      unfold Rep
      exact ⟨p, vs, rfl, .inl ⟨hM, Rd.of hp⟩, RepL.stp Stp.refl (fun _ z => .inl z) d vs r⟩
  | exc C f d e =>
    rw [hr] at h
    dsimp only at h
    cases ho : outE io e with
    | none => rw [ho] at h; exact h.elim
    | some out =>
      rw [ho] at h
      intro σ' dd v H' s u E' hd r
      obtain ⟨f1, f2⟩ := fl s E' ho
      exact h dd v H' f1 f2 hd (Rep.stp Stp.refl (fun _ z => .inl z) d v r)
end
section
variable {P : Program} {w : World} {K : PySem.W.Frag} {mg : Str → Option Value} {base : Heap} {G : Ctx}
/-- THE RULE: a def by the text of its body -/
theorem fn_body {x qual : Str} {st : Stmt} {f : Addr} {fd : FuncData} {N ps : List Str} {k : Nat} {io : Option Nat} {b : List ST} (F : Fun K x qual st f fd) (S : FnScope N ps (defScope st)) (hn : ps.length ≤ N.length)
    (hb : ∀ (cdv : Value) (A : Around) (outer : List PySem.Env) (s : Shared) (H : Hp) (E : XK), Room k (A.deeper (envOfC qual (defScope st) s.heap.objs.size f cdv)) →
      PSs (cxOf (L2.CX P w) P w K mg base N qual (defScope st) f cdv A outer s H E) (defBody st) (tSs G (fun cls d _ H' => E cls d H') K b)) :
    FnOk P w K mg base (L2.CX P w) (k + 1) f fd ps (spF K ps.length io (semB G N.length io b)) :=
  fun_okX F S (fun vs H Q E h => h.1) fun cdv A outer s H vs Q E hr h => ⟨_, hb cdv A outer s H E hr, body_read hn h⟩
end
end Mp
set_option maxHeartbeats 4000000
namespace Mp
open PySem L2 PyProof.Rows
variable [TabsW] [GdW]
section
variable {X : Cx} {G : Ctx} {W : WX}
theorem st_retl {e : Expr} {m : LM} {pos : Pos} (he : PE X e (tIl G W X.K m)) : PS X (.Return (some e) pos) (tS G W X.K (.retl m)) := PS.by_ (ps_ret he) fun D σ H q => by
  obtain ⟨H0, M0, A, env, E, q⟩ := q
  rw [evS] at q
  refine ⟨H0, M0, A, env, E, (SatS.toS q).mono fun ds e1 H1 _ s1 u1 E1 h1 => ?_⟩
  by_cases hc : ds.length ≤ BIG
  · rw [if_pos hc] at h1
    exact ⟨hc, fun vs p H' s hp h' r => h1 σ p vs H' s.no SubS.refl (E1.keep s) (E1.freshL hp).2 (fun z => (E1.freshL hp).1 (.inl z)) h' (RepL.stp Stp.refl (fun a z => z.elim (fun q => .inl (.inl q)) .inr) ds vs r)⟩
  · rw [if_neg hc] at h1; exact h1.elim
end
def spFr (K : PySem.W.Frag) (n : Nat) (F : List D → FR) : Sp := fun vs H Q E => vs.length = n ∧ ∃ (M : AS) (ds : List D), MOk M H ∧ RepL K H M ds vs ∧ (match F ds with
  | .ok (.lst es) _ => es.length ≤ BIG ∧ ∀ p xs H', Stp NoA H H' → ¬ Lv H p → H' p = some (.lst xs) → RepL K H' (fun a => M a ∨ a = p) es xs → Q (.ref p) H'
  | .exc C f d _ => ∀ dd v H', Stp NoA H H' → H' dd = some (.xd [(f, v)]) → Rep K H' M d v → E (.ref (clsAt K C)) (some dd) H'
  | _ => False)
structure FrF (P : Program) (w : World) (K : PySem.W.Frag) (mg : Str → Option Value) (base : Heap) (k : Nat) (x : Str) (f : Fn) : Prop where
  dbg : (x == ("__debug__" : Str)) = false
  ex : ∃ (a : Addr) (fd : FuncData) (ps : List Str) (sp : Sp) (ds : List Value) (dvs : List V), mg x = some (.ref a) ∧ PySem.W.keepIn K (.ref a) = true ∧ FnOk P w K mg base (L2.CX P w) k a fd ps sp ∧ Binds K fd ps ds ∧ Vals dvs ds ∧
    ∀ vs H Q E, spFr K f.n f.sem vs H Q E → sp (vs ++ dvs) H Q E
section
variable {X : Cx} {G : Ctx} {W : WX}
theorem l_call {k j : Nat} {f : Fn} {x : Str} {e : Expr} {es : List Expr} {is : List IR} {p pos : Pos} (F : FrF X.prog X.w X.K X.mg X.base k x f) (hj : G.frs[j]? = some f) (hr : Room k X.A) (tk : Takes X W) (hg : Gl X x) (ha : PA X (e :: es) (tIs G W X.K is)) (h1 : (e :: es).any starB = false) :
    PE X (.Call (.Name x p) (e :: es) [] pos) (tIl G W X.K (.call j is)) := by
  rw [List.any_cons, Bool.or_eq_false_iff] at h1
  obtain ⟨a, fd, ps, sp, ds, dvs, hm, hk, ok, hb, hd, hs⟩ := F.ex
  refine PE.by_ (pe_callSD ok hr hg hm hk hb hd (fun σ => passAt tk σ) ha F.dbg (star_cons h1.1) (star_none h1.2)) fun σ H Q q => ?_
  obtain ⟨H0, M0, A, env, E, q⟩ := q
  rw [evL, hj] at q
  dsimp only at q
  by_cases hl : is.length = f.n
  · rw [if_pos hl] at q
    refine ⟨H0, M0, A, env, E, (Sat.bind q).mono fun vs e1 H1 he s1 u1 E1 h1 ws hw => hs ws H1 Q _ ?_⟩
    refine ⟨by rw [← hw.length, evs_len G is env vs e1 he]; exact hl, MM M0 e1 σ, vs, E1.mok, hw, ?_⟩
    cases e : f.sem vs with
    | bad => rw [e] at h1; exact h1.elim
    | ok d out =>
      rw [e] at h1
      cases d with
      | lst ds =>
        have h2 := h1 H1 Stp.refl Sub.refl E1
        exact ⟨h2.1, fun p xs H' s hp h' r => h2.2 xs p H' s hp h' r⟩
      | _ => exact h1.elim
    | exc C g d out =>
      rw [e] at h1
      intro dd v H' st hd rv
      exact h1 dd v H' st.no Sub.refl (E1.keep st) hd rv
  · rw [if_neg hl] at q; exact q.elim
/-- what such a body yields -/
def semBF (G : Ctx) (m : Nat) (b : List ST) (ds : List D) : FR := match evSs G b (startE none m ds) with
  | .rl es e => if es.length ≤ BIG then .ok (.lst es) [] else .bad
  | .exc C f d e => .exc C f d []
  | _ => .bad
theorem body_readF {K : PySem.W.Frag} {n : Nat} {b : List ST} {N : List Str} {vs : List V} {H : Hp} {Q : VK} {E : XK} (hn : n ≤ N.length) (h : spFr K n (semBF G N.length b) vs H Q E) :
    tSs G (fun cls d _ H' => E cls d H') K b { nx := fun _ H' => Q .non H', rt := Q } (L2.start N vs) H := by
  obtain ⟨hl, M, ds, hM, rr, h⟩ := h
  have ar : ArgR K H M none ds vs := ⟨rr.length, fun i d v h1 h2 => ⟨fun _ => by
    obtain ⟨v', g1, g2⟩ := rr.get h1
    rw [h2] at g1; cases g1
    exact g2, fun z => nomatch z⟩⟩
  obtain ⟨E0, noM⟩ := env0 (N := N) (by rw [hl]; exact hn) hM ar
  have fl : ∀ {H' : Hp}, Stp (WW (IoA none vs) (startE none N.length ds) (L2.start N vs)) H H' → Stp NoA H H' := fun {H'} s => s.weak fun a z => z.elim (fun ⟨i, z, _⟩ => nomatch z) fun q => (noM a q).elim
  refine ⟨H, M, IoA none vs, startE none N.length ds, E0, ?_⟩
  unfold semBF at h
  cases hr : evSs G b (startE none N.length ds) with
  | rl es e =>
    rw [hr] at h
    dsimp only at h
    by_cases hB : es.length ≤ BIG
    · rw [if_pos hB] at h
      intro σ' p xs H' s u E' h0 hM' hp r
      exact h.2 p xs H' (fl s) h0 hp r
    · rw [if_neg hB] at h; exact h.elim
  | exc C f d e =>
    rw [hr] at h
    intro σ' dd v H' s u E' hd r
    exact h dd v H' (fl s) hd (Rep.stp Stp.refl (fun _ z => .inl z) d v r)
  | _ => rw [hr] at h; exact h.elim
end
section
variable {P : Program} {w : World} {K : PySem.W.Frag} {mg : Str → Option Value} {base : Heap} {G : Ctx}
theorem fn_bodyF {x qual : Str} {st : Stmt} {f : Addr} {fd : FuncData} {N ps : List Str} {k : Nat} {b : List ST} (F : Fun K x qual st f fd) (S : FnScope N ps (defScope st)) (hn : ps.length ≤ N.length)
    (hb : ∀ (cdv : Value) (A : Around) (outer : List PySem.Env) (s : Shared) (H : Hp) (E : XK), Room k (A.deeper (envOfC qual (defScope st) s.heap.objs.size f cdv)) →
      PSs (cxOf (L2.CX P w) P w K mg base N qual (defScope st) f cdv A outer s H E) (defBody st) (tSs G (fun cls d _ H' => E cls d H') K b)) :
    FnOk P w K mg base (L2.CX P w) (k + 1) f fd ps (spFr K ps.length (semBF G N.length b)) :=
  fun_okX F S (fun vs H Q E h => h.1) fun cdv A outer s H vs Q E hr h => ⟨_, hb cdv A outer s H E hr, body_readF hn h⟩
end
end Mp
set_option maxHeartbeats 4000000
set_option maxHeartbeats 4000000
namespace Mp
open PySem L2 PyProof.Rows
variable [TabsW] [GdW]
theorem list_mulW (l : Addr) (items : Array Value) (n : Nat) (dd : Option Addr) (sl : Array (Option Value)) (x : Int) (u : Tok) (hc0 : ¬(!Builtin.List.listFitsIndex x) = true) (hc1 : ¬items.size * x.toNat > (2 ^ 63 - 1) / 8) (hc2 : ¬Builtin.List.listTooLong (items.size * x.toNat) = true) :
    Meets (Builtin.«list.__mul__» ⟨[.ref l, .int x u], []⟩) (fun _ R s => s.heap.get? l = some { cls := .type "list", dict := dd, data := .seq items n, slots := sl } ∧ R (.ok (.ret (Value.ref s.heap.objs.size))) { s with heap := s.heap.push { cls := Value.type "list", data := Data.seq (List.foldl (fun x1 x2 => x1 ++ x2) #[] (List.replicate (if items.isEmpty = true then 0 else x.toNat) items)) }, toks := s.toks }) :=
  .of_wp fun prog w A R s h => by
    obtain ⟨hp, g, d, tk, os⟩ := s; obtain ⟨hl, h⟩ := h
    have hsz := AutoListH.joined_fits hc2
    wp_walk using wpAny_loadPart' hl; refine wpAny_ite_false (decide_eq_false (Nat.not_lt.mpr hsz)) ?_; wp_walk using wpAny_loadPart' hl; exact ⟨_, rfl, h⟩
theorem int_rmul_listW (a : Int) (t : Tok) (l : Addr) (items : Array Value) (n : Nat) (dd : Option Addr) (sl : Array (Option Value)) :
    Meets (Builtin.«int.__rmul__» ⟨[.int a t, .ref l], []⟩) (fun _ R s => s.heap.get? l = some { cls := .type "list", dict := dd, data := .seq items n, slots := sl } ∧ R (.ok (.ret Value.notImplemented)) s) :=
  .of_wp fun prog w A R s h => by obtain ⟨hp, g, d, tk, os⟩ := s; obtain ⟨hl, h⟩ := h; wp_walk using wpAny_loadPart' hl; exact ⟨_, rfl, h⟩
theorem foldl_rep (its : List Value) : ∀ (n : Nat) (acc : Array Value), List.foldl (fun x1 x2 : Array Value => x1 ++ x2) acc (List.replicate n its.toArray) = acc ++ ((List.replicate n its).flatten).toArray
  | 0, acc => by simp
  | n + 1, acc => by
    rw [List.replicate_succ, List.foldl_cons, foldl_rep its n, List.replicate_succ, List.flatten_cons]
    simp
theorem rep_eq (its : List Value) (n : Nat) : List.foldl (fun x1 x2 : Array Value => x1 ++ x2) #[] (List.replicate (if its.toArray.isEmpty = true then 0 else n) its.toArray) = ((List.replicate n its).flatten).toArray := by
  rw [foldl_rep]
  cases its with
  | nil => simp
  | cons a l => simp
theorem vals_rep {xs : List V} {us : List Value} (h : Vals xs us) : ∀ n : Nat, Vals (List.replicate n xs).flatten (List.replicate n us).flatten
  | 0 => .nil
  | n + 1 => by
    rw [List.replicate_succ, List.replicate_succ, List.flatten_cons, List.flatten_cons]
    exact h.append (vals_rep h n)
/-- a list so many times -/
def rRepR (K : PySem.W.Frag) : V → V → Hp → VK → Prop := fun x y H Q => ∃ (l : Addr) (xs : List V) (j : Int), x = .ref l ∧ y = .int j ∧ SqL K H l xs ∧ 0 ≤ j ∧ j ≤ 100 ∧ xs.length ≤ 100 ∧ ∀ p, H p = none → Q (.ref p) (upd H p (.lst (List.replicate j.toNat xs).flatten))
theorem op_repR {X : Cx} : OpR X (binaryOp .Mult) (rRepR X.K) := by
  intro pins s σ H x y v u Q I rx ry h
  obtain ⟨l, xs, j, rfl, rfl, hH, h0, h1, hz, q⟩ := h
  cases rx
  obtain ⟨t, rfl⟩ := (show ∃ t, u = Value.int j t from ry)
  obtain ⟨its, r, ⟨⟨cls, dd, data, sl⟩, n, ho, hc, hd0, hd⟩, hz1⟩ := I.list hH
  simp only at hc hd
  subst hc hd
  have l1 := r.length
  have hs : sizeLine = 16777216 := sizeLine_eq
  have hm : its.toArray.size * j.toNat ≤ 10000 := by
    rw [List.size_toArray, ← l1]
    exact Nat.le_trans (Nat.mul_le_mul hz (show j.toNat ≤ 100 by omega)) (by decide)
  have hm2 : its.length * j.toNat ≤ 10000 := by rw [List.size_toArray] at hm; exact hm
  have hlen : ((List.replicate j.toNat xs).flatten).length ≤ 10000 := by
    rw [List.length_flatten]
    simp only [List.map_replicate, List.sum_replicate_nat]
    rw [List.size_toArray, ← l1, Nat.mul_comm] at hm
    exact hm
  refine wpAny_binaryOp_repeat_ref (T := "list") (U := "int") (by decide) ⟨_, ho, rfl⟩ (fun s' => typeIs_int s' j t) noFill_list_mul F.fills_int_mul F.slot_int_rmul repeat_list F.slot_int_index.lookup
    (call_meets F.slot_int_rmul (typeIs_int s j t) F.entry_int_rmul (F.args_int_rmul_2 _ _) (int_rmul_listW j t l its.toArray n dd sl)
      ⟨ho, rfl, ⟨_, ho, rfl⟩, call_meets F.slot_list_mul ⟨_, ho, rfl⟩ F.entry_list_mul (F.args_list_mul_2 _ _)
        (list_mulW l its.toArray n dd sl j t (by simp [Builtin.List.listFitsIndex]; omega) (by omega) (by simp only [Builtin.List.listTooLong]; simp; have := hm2; omega))
        ⟨ho, ?_⟩⟩)
  rw [rep_eq]
  exact ⟨.ref _, _, I.lnew (t' := s.toks) (vals_rep r j.toNat) (by omega), rfl, q _ I.fresh⟩
section
variable {X : Cx} {G : Ctx} {W : WX} {a b c : Expr} {a' b' c' : IR} {pos p : Pos} {j : Nat}
theorem xi {n : Int} : PE X (.Constant (.int n) j pos) (tI G W X.K (.c (.int n))) := e_c pe_int fun _ _ => rep_int _
theorem xb {n : Bool} : PE X (.Constant (.bool n) j pos) (tI G W X.K (.c (.bl n))) := e_c pe_bl fun _ _ => rep_bl _
theorem xn : PE X (.Constant .none j pos) (tI G W X.K (.c .non)) := e_c pe_non fun _ _ => rep_non
theorem xs {n : Str} : PE X (.Constant (.str n) j pos) (tI G W X.K (.c (.str n))) := e_c pe_str fun _ _ => rep_str _
theorem RepL.rep {K : PySem.W.Frag} {H : Hp} {M : AS} {ds : List D} {xs : List V} (h : RepL K H M ds xs) : ∀ n : Nat, RepL K H M (List.replicate n ds).flatten (List.replicate n xs).flatten
  | 0 => RepL.nil
  | n + 1 => by
    rw [List.replicate_succ, List.replicate_succ, List.flatten_cons, List.flatten_cons]
    exact h.append (RepL.rep h n)
theorem s_mul' {K : PySem.W.Frag} : OpS K (rOr rMulU (rRepR K)) mulD := by
  intro M x y H p q z Q rp rq hM e k
  cases p with
  | int i =>
    cases q with
    | int j => exact .inl (s_mul M x y H (.int i) (.int j) z Q rp rq hM e k)
    | _ => cases e
  | lst ds =>
    cases q with
    | int j =>
      have e' : (if 0 ≤ j ∧ j ≤ 100 ∧ ds.length ≤ 100 then some (D.lst (List.replicate j.toNat ds).flatten) else none) = some z := e
      by_cases hc : 0 ≤ j ∧ j ≤ 100 ∧ ds.length ≤ 100
      · rw [if_pos hc] at e'
        cases e'
        obtain ⟨la, xs, rfl, h1, r1⟩ := rp
        rw [rq.int]
        exact .inr ⟨la, xs, j, rfl, rfl, h1, hc.1, hc.2.1, by rw [← r1.length]; exact hc.2.2, fun p hp => k _ _ (Stp.new hp) (rep_new hp (hM p hp) (r1.rep j.toNat))⟩
      · rw [if_neg hc] at e'; cases e'
    | _ => cases e
  | _ => cases e
theorem x_add (ha : PE X a (tI G W X.K a')) (hb : PE X b (tI G W X.K b')) : PE X (.BinOp a .Add b pos) (tI G W X.K (.bin .add a' b')) := e_bin op_addU s_add ha hb
theorem x_sub (ha : PE X a (tI G W X.K a')) (hb : PE X b (tI G W X.K b')) : PE X (.BinOp a .Sub b pos) (tI G W X.K (.bin .sub a' b')) := e_bin op_sub s_sub ha hb
theorem x_mul (ha : PE X a (tI G W X.K a')) (hb : PE X b (tI G W X.K b')) : PE X (.BinOp a .Mult b pos) (tI G W X.K (.bin .mul a' b')) := e_bin (OpR.or op_mul op_repR) s_mul' ha hb
theorem x_fdiv (ha : PE X a (tI G W X.K a')) (hb : PE X b (tI G W X.K b')) : PE X (.BinOp a .FloorDiv b pos) (tI G W X.K (.bin .fdiv a' b')) := e_bin op_fdiv s_fdiv ha hb
theorem x_mod (ha : PE X a (tI G W X.K a')) (hb : PE X b (tI G W X.K b')) : PE X (.BinOp a .Mod b pos) (tI G W X.K (.bin .mod a' b')) := e_bin op_mod s_mod ha hb
theorem x_pow (ha : PE X a (tI G W X.K a')) (hb : PE X b (tI G W X.K b')) : PE X (.BinOp a .Pow b pos) (tI G W X.K (.bin .pow a' b')) := e_bin op_pow s_pow ha hb
theorem x_lt (ha : PE X a (tI G W X.K a')) (hb : PE X b (tI G W X.K b')) : PE X (.Compare a [.Lt] [b] pos) (tI G W X.K (.cmp .lt a' b')) := e_cmp op_lt s_lt ha hb (nomark _)
theorem x_ge (ha : PE X a (tI G W X.K a')) (hb : PE X b (tI G W X.K b')) : PE X (.Compare a [.GtE] [b] pos) (tI G W X.K (.cmp .ge a' b')) := e_cmp op_ge s_ge ha hb (nomark _)
theorem y_gt (ha : PE X a (tI G W X.K a')) (hb : PE X b (tI G W X.K b')) : PT X (.Compare a [.Gt] [b] pos) (tIt G W X.K (.cmp .gt a' b')) := t_cmp op_gt s_gt ha hb (nomark _)
theorem y_eq (hu : X.A.units + 64 < cLine) (ha : PE X a (tI G W X.K a')) (hb : PE X b (tI G W X.K b')) : PT X (.Compare a [.Eq] [b] pos) (tIt G W X.K (.cmp .eq a' b')) := t_cmp (op_eqD hu) s_eq ha hb (nomark _)
theorem y_ne (hu : X.A.units + 64 < cLine) (ha : PE X a (tI G W X.K a')) (hb : PE X b (tI G W X.K b')) : PT X (.Compare a [.NotEq] [b] pos) (tIt G W X.K (.cmp .ne a' b')) := t_cmp (op_neD hu) s_ne ha hb (nomark _)
theorem any1 (h : starB a = false) : ([a] : List Expr).any starB = false := by rw [List.any_cons, h]; rfl
theorem b_len (hm : X.mg "len" = none) (hg : Gl X "len") (ha : PE X a (tI G W X.K a')) (hs : starB a = false) : PE X (.Call (.Name "len" p) [a] [] pos) (tI G W X.K (.blt .len [a'])) := e_bltF call_len s_len hg hm (by decide +kernel) (ar_cons ha ar_nil hs) (any1 hs) (by decide) (by decide)
theorem b_int (hm : X.mg "int" = none) (hg : Gl X "int") (ha : PE X a (tI G W X.K a')) (hs : starB a = false) : PE X (.Call (.Name "int" p) [a] [] pos) (tI G W X.K (.blt .int [a'])) := e_bltT call_int1 s_int hg hm (by decide +kernel) (ar_cons ha ar_nil hs) (any1 hs) (by decide) (by decide)
theorem b_abs (hm : X.mg "abs" = none) (hg : Gl X "abs") (ha : PE X a (tI G W X.K a')) (hs : starB a = false) : PE X (.Call (.Name "abs" p) [a] [] pos) (tI G W X.K (.blt .abs [a'])) := e_bltF call_abs s_abs hg hm (by decide +kernel) (ar_cons ha ar_nil hs) (any1 hs) (by decide) (by decide)
theorem hu64 {A : Around} {k : Nat} (hr : Room k A) : A.units + 64 < cLine := by have := hr.r.un; omega
end
end Mp
set_option maxHeartbeats 4000000
set_option maxHeartbeats 4000000
set_option maxHeartbeats 4000000
namespace Mp
open PySem L2 PyProof.Rows
variable [TabsW] [GdW]
section
variable {P : Program} {w : World} {K : PySem.W.Frag} {mg : Str → Option Value} {base : Heap} {k : Nat} {x : Str} {a : Addr} {fd : FuncData} {ps : List Str}
theorem fnF_mk {n : Nat} {io : Option Nat} {sem : List D → FR} (hd : (x == ("__debug__" : Str)) = false) (hm : mg x = some (.ref a)) (hk : PySem.W.keepIn K (.ref a) = true) (ok : FnOk P w K mg base (L2.CX P w) k a fd ps (spF K n io sem)) (hb : Binds K fd ps []) : FnF P w K mg base k x ⟨n, io, sem⟩ :=
  ⟨hd, a, fd, ps, _, [], [], hm, hk, ok, hb, .nil, fun vs H Q E h => by rw [List.append_nil]; exact h⟩
theorem frF_mk {n : Nat} {io : Option Nat} {sem : List D → FR} (hd : (x == ("__debug__" : Str)) = false) (hm : mg x = some (.ref a)) (hk : PySem.W.keepIn K (.ref a) = true) (ok : FnOk P w K mg base (L2.CX P w) k a fd ps (spFr K n sem)) (hb : Binds K fd ps []) : FrF P w K mg base k x ⟨n, io, sem⟩ :=
  ⟨hd, a, fd, ps, _, [], [], hm, hk, ok, hb, .nil, fun vs H Q E h => by rw [List.append_nil]; exact h⟩
/-- what law(script) promises: for a list of at most 63 ints the answer is True -/
def spLaw (K : PySem.W.Frag) : Sp := fun vs H Q _ => ∃ (a : Addr) (ns : List Int), (∀ P q, (P, q) ∈ TabsW.T → LamX.TabS H P q) ∧ vs = [.ref a] ∧ SqL K H a (ns.map V.int) ∧ ns.length ≤ 63 ∧ ∀ H', Q (.bl true) H'
theorem law_imp {sem : List D → FR} (math : ∀ ns : List Int, ns.length ≤ 63 → ∃ out, sem [.lst (ns.map .int)] = .ok (.bl true) out) {vs : List V} {H : Hp} {Q : VK} {E : XK} (h : spLaw K vs H Q E) : spF K 1 none sem vs H Q E := by
  obtain ⟨a, ns, hT, rfl, hS, hl, q⟩ := h
  have r : Rep K H NoA (.lst (ns.map .int)) (.ref a) := by
    unfold Rep
    exact ⟨a, _, rfl, RdK.ofS id hS, RepL.of_ints ns⟩
  refine ⟨rfl, NoA, [.lst (ns.map .int)], ⟨fun _ z => z.elim, hT⟩, ⟨rfl, fun i d v h1 h2 => ⟨fun _ => ?_, fun z => nomatch z⟩⟩, ?_⟩
  · obtain ⟨v', g1, g2⟩ := (RepL.cons r RepL.nil).get h1
    rw [h2] at g1; cases g1
    exact g2
  · obtain ⟨out, e⟩ := math ns hl
    rw [e]
    intro v H' _ _ rv
    unfold Rep at rv
    rw [rv]
    exact q H'
end
end Mp
set_option maxHeartbeats 4000000
namespace Mp
open PySem L2
variable [TabsW] [GdW]
section
variable {G : Ctx}
theorem R.bind_ok {α β : Type} {a : α} {e : Env} {k : α → Env → R β} : (R.ok a e).bind k = k a e := rfl
theorem eva_vals {io : Option Nat} : ∀ (es : List IR) (n : Nat) (env : Env), (∀ i, io = some i → i < n) → eva G io n es env = (evs G es env).bind fun ds e1 => .ok (ds.map Opd.val, []) e1
  | [], n, env, h => by rw [eva, evs]; rfl
  | e :: es, n, env, h => by
    rw [eva, evs, if_neg (fun z => Nat.lt_irrefl _ (h n z))]
    cases (ev G e env).take with
    | bad => rfl
    | exc C f d e1 => rfl
    | ok d e1 =>
      show ((eva G io (n + 1) es e1).bind fun p e2 => R.ok (Opd.val d :: p.1, p.2) e2) = ((evs G es e1).bind fun ds e2 => R.ok (d :: ds) e2).bind fun ds e1 => .ok (ds.map Opd.val, []) e1
      rw [eva_vals es (n + 1) e1 fun i z => Nat.lt_succ_of_lt (h i z)]
      cases evs G es e1 with
      | bad => rfl
      | exc C f d e1 => rfl
      | ok ds e2 => rfl
theorem rd_vals {env : Env} : ∀ (ds : List D), (ds.map Opd.val).mapM (rdO env) = some ds
  | [] => rfl
  | d :: ds => by rw [List.map_cons, List.mapM_cons, rd_vals ds]; rfl
def runF (env : Env) : FR → R Opd
  | .ok d _ => .ok (.val d) env
  | .exc C f d _ => .exc C f d env
  | .bad => .bad
/-- a call, nothing handed over -/
theorem ev_call {j : Nat} {f : Fn} {es : List IR} {env : Env} (hj : G.fns[j]? = some f) (hio : f.io = none) (hn : es.length = f.n) : ev G (.call j es) env = (evs G es env).bind fun ds e1 => runF e1 (f.sem ds) := by
  rw [ev, hj]
  dsimp only
  rw [if_pos hn, hio, eva_vals (io := none) es 0 env (fun i z => by cases z)]
  cases evs G es env with
  | bad => rfl
  | exc C f d e1 => rfl
  | ok ds e1 =>
    show (match (ds.map Opd.val).mapM (rdO e1) with
      | some ds => frR e1 none [] (f.sem ds)
      | none => .bad) = runF e1 (f.sem ds)
    rw [rd_vals]
    dsimp only
    cases f.sem ds <;> rfl
theorem evq_c {d : D} {env : Env} : ev G (.c d) env = (.ok (.val d) env) := by first | (rw [ev]; done) | (rw [ev]; rfl)
theorem evq_v {i : Nat} {env : Env} : ev G (.v i) env = (match cellAt env i with
    | some (.dat d) => .ok (.val d) env
    | some (.own _) => .ok (.pl i) env
    | some (.io _) => .ok (.pl i) env
    | _ => .bad) := by first | (rw [ev]; done) | (rw [ev]; rfl)
theorem evq_bin {op : BOp} {a : IR} {b : IR} {env : Env} : ev G (.bin op a b) env = ((ev G a env).bind fun x e1 => (ev G b e1).bind fun y e2 => match rdO e2 x, rdO e2 y with
    | some p, some q => lift e2 (binD op p q)
    | _, _ => .bad) := by first | (rw [ev]; done) | (rw [ev]; rfl)
theorem evq_cmp {op : COp} {a : IR} {b : IR} {env : Env} : ev G (.cmp op a b) env = ((ev G a env).bind fun x e1 => (ev G b e1).bind fun y e2 => match rdO e2 x, rdO e2 y with
    | some p, some q => lift e2 ((cmpD op p q).map .bl)
    | _, _ => .bad) := by first | (rw [ev]; done) | (rw [ev]; rfl)
theorem evq_chn {op1 : COp} {op2 : COp} {a : IR} {b : IR} {c : IR} {env : Env} : ev G (.chn op1 op2 a b c) env = ((ev G a env).bind fun x e1 => (ev G b e1).bind fun y e2 => match rdO e2 x, rdO e2 y with
    | some p, some q => (match cmpD op1 p q with
      | some true => (ev G c e2).bind fun z e3 => (match rdO e3 y, rdO e3 z with
        | some p, some q => lift e3 ((cmpD op2 p q).map .bl)
        | _, _ => .bad)
      | some false => .ok (.val (.bl false)) e2
      | none => .bad)
    | _, _ => .bad) := by first | (rw [ev]; done) | (rw [ev]; rfl)
theorem evq_and_ {a : IR} {b : IR} {env : Env} : ev G (.and_ a b) env = ((ev G a env).bind fun x e1 => match (rdO e1 x).bind truD with
    | some true => ev G b e1
    | some false => .ok x e1
    | none => .bad) := by first | (rw [ev]; done) | (rw [ev]; rfl)
theorem evq_or_ {a : IR} {b : IR} {env : Env} : ev G (.or_ a b) env = ((ev G a env).bind fun x e1 => match (rdO e1 x).bind truD with
    | some true => .ok x e1
    | some false => ev G b e1
    | none => .bad) := by first | (rw [ev]; done) | (rw [ev]; rfl)
theorem evq_not_ {a : IR} {env : Env} : ev G (.not_ a) env = ((ev G a env).bind fun x e1 => match (rdO e1 x).bind truD with
    | some b => .ok (.val (.bl (!b))) e1
    | none => .bad) := by first | (rw [ev]; done) | (rw [ev]; rfl)
theorem evq_neg {a : IR} {env : Env} : ev G (.neg a) env = ((ev G a env).bind fun x e1 => match x with
    | .val (.int i) => .ok (.val (.int (-i))) e1
    | _ => .bad) := by first | (rw [ev]; done) | (rw [ev]; rfl)
theorem evq_ite {t : IR} {a : IR} {b : IR} {env : Env} : ev G (.ite t a b) env = ((truR (ev G t env)).bind fun c e1 => if c then ev G a e1 else ev G b e1) := by first | (rw [ev]; done) | (rw [ev]; rfl)
theorem evq_tup {es : List IR} {env : Env} : ev G (.tup es) env = ((evs G es env).bind fun ds e1 => if ds.length ≤ BIG then .ok (.val (.tup ds)) e1 else .bad) := by first | (rw [ev]; done) | (rw [ev]; rfl)
theorem evq_lst {es : List IR} {env : Env} : ev G (.lst es) env = ((evs G es env).bind fun ds e1 => if ds.length ≤ BIG then .ok (.val (.lst ds)) e1 else .bad) := by first | (rw [ev]; done) | (rw [ev]; rfl)
theorem evq_ix {a : IR} {b : IR} {env : Env} : ev G (.ix a b) env = ((ev G a env).bind fun x e1 => (ev G b e1).bind fun y e2 => match rdO e2 x, rdO e2 y with
    | some p, some q => lift e2 (ixD p q)
    | _, _ => .bad) := by first | (rw [ev]; done) | (rw [ev]; rfl)
theorem evq_blt {b : Blt} {es : List IR} {env : Env} : ev G (.blt b es) env = ((evr G es env).bind fun os e1 => match os.mapM (rdO e1) with
    | some ds => lift e1 (bltD b ds)
    | none => .bad) := by first | (rw [ev]; done) | (rw [ev]; rfl)
theorem evq_isin {a : IR} {ts : List Ty} {env : Env} : ev G (.isin a ts) env = ((ev G a env).bind fun x e1 => match rdO e1 x with
    | some d => if knownB G.cls d then .ok (.val (.bl (ts.any fun t => tyD t d))) e1 else .bad
    | none => .bad) := by first | (rw [ev]; done) | (rw [ev]; rfl)
end
end Mp
set_option maxHeartbeats 4000000
set_option maxHeartbeats 4000000
namespace Mp
open PySem L2
variable [TabsW] [GdW]
/-- what a comprehension makes of what is walked: left out, or taken as something -/
inductive LcR (Skip : D → Prop) (Take : D → D → Prop) : List D → List D → Prop where
  | nil : LcR Skip Take [] []
  | skip {d ds xs} : Skip d → LcR Skip Take ds xs → LcR Skip Take (d :: ds) xs
  | take {d x ds xs} : Take d x → LcR Skip Take ds xs → LcR Skip Take (d :: ds) (x :: xs)
theorem LcR.map {Skip : D → Prop} {Take : D → D → Prop} {g : D → D} (h1 : ∀ d, ¬ Skip d) (h2 : ∀ d x, Take d x → x = g d) {ds xs : List D} (h : LcR Skip Take ds xs) : xs = ds.map g := by
  induction h with
  | nil => rfl
  | skip h _ _ => exact absurd h (h1 _)
  | take h _ ih => rw [h2 _ _ h, ih]; rfl
theorem LcR.len {Skip : D → Prop} {Take : D → D → Prop} (h1 : ∀ d, ¬ Skip d) {ds xs : List D} (h : LcR Skip Take ds xs) : xs.length = ds.length := by
  induction h with
  | nil => rfl
  | skip h _ _ => exact absurd h (h1 _)
  | take h _ ih => rw [List.length_cons, List.length_cons, ih]
theorem LcR.all {Skip : D → Prop} {Take : D → D → Prop} {P : D → Prop} (h2 : ∀ d x, Take d x → P x) {ds xs : List D} (h : LcR Skip Take ds xs) : ∀ x, x ∈ xs → P x := by
  induction h with
  | nil => intro x h; cases h
  | skip _ _ ih => exact ih
  | take h _ ih =>
    intro x hx
    rcases List.mem_cons.mp hx with rfl | hx
    · exact h2 _ _ h
    · exact ih x hx
end Mp
set_option maxHeartbeats 4000000
set_option maxHeartbeats 4000000
namespace Mp
open PySem PySem.Spec PyProof.Rows L2
variable [GdW]
/-- an empty table's object -/
abbrev tab0 : Obj := { cls := .none, data := .fields #[] }
/-- the list that is handed in -/
abbrev lst0 (vs : List Value) : Obj := { cls := .type "list", data := .seq vs.toArray }
theorem tab_lst {vs : List Value} (z : some (lst0 vs) = some tab0) : False := by
  have q : Data.seq vs.toArray _ = Data.fields #[] := congrArg Obj.data (Option.some.inj z)
  cases q
section
variable {P : Program} {w : World} {K : PySem.W.Frag} {mg mb : Str → Option Value} {CX : CXT} {k : Nat} {fa a : Addr} {ts : List (Addr × Addr)} {fd : FuncData} {x : Str} {sp : Sp} {s1 : Shared} {vs : List Value} {ns : List Int}
/-- what stands in the abstract heap at the law's start: the script, if the top has not written it, and the tables -/
structure At0 (H : Hp) (P : Program) (w : World) (K : PySem.W.Frag) (s1 : Shared) (ts : List (Addr × Addr)) (a : Addr) (ns : List Int) : Prop where
  tabs : ∀ p ∈ ts, H p.2 = some (.tbl #[])
  all : ∀ b, H b = none ∨ b ∈ ts.map (·.2) ∨ ∃ o xs, H b = some (.frz o (.lst xs))
  scr : SqL K H a (ns.map V.int)
  hok : HOk P w H s1.heap
  only : ∀ b, H b ≠ none → b = a ∨ b ∈ ts.map (·.2)
  new : H a ≠ none → K.lookup a = none
theorem law_goT (KX : K.In s1.heap) (nsg : s1.heap.Ns mainGlobals mg) (nsb : s1.heap.Ns builtinsNs mb) (bb : ∀ x : Str, x ≠ "__name__" → mb x = bootBuiltins x) (lim : s1.heap.NoLimit) (gs : s1.gens = #[])
    (tT : ∀ p ∈ ts, s1.heap.get? p.2 = some tab0) (tK : ∀ p ∈ ts, K.lookup p.2 = none) (tC : ∀ p ∈ ts, PySem.W.CodeHd s1.heap p.1 p.2)
    (bmn : ∃ (bm : Addr) (ob : Obj), mg "__builtins__" = some (.ref bm) ∧ bm ≠ builtinsNs ∧ s1.heap.get? bm = some ob ∧ ob.cls = .type "module" ∧ ob.dict = some builtinsNs ∧ ob.data = .plain)
    (ha : s1.heap.get? a = some (lst0 vs)) (room : Room k callerA)
    (F : ∀ base : Heap, K.In base → base.Ns mainGlobals mg → (∀ p ∈ ts, LamX.TabB base mg p.1 p.2) → FnOk P w K mg base CX k fa fd [x] sp) (bnd : ∀ (s : Shared) (u : Value), BindsTo s fd ⟨[u], []⟩ [(x, u)])
    (noX : ∀ H e s', CX [] H s1 (fun _ _ _ => False) e s' → False) {H : Hp} (Z : At0 H P w K s1 ts a ns) (want : sp [.ref a] H (fun v _ => v = .bl true) fun _ _ _ => False) :
    codeAny (model P w) callerA (.call (.ref fa) ⟨[.ref a], []⟩) (fun r s' => r = .ok (.ret (.bool true)) ∧ OldK s1.heap s'.heap ∧ s'.os = s1.os ∧ AllBare s'.gens) s1 := by
  have inT : ∀ b : Addr, b ∈ ts.map (·.2) → s1.heap.get? b = some tab0 := fun b hb => by
    obtain ⟨p, hp, rfl⟩ := List.mem_map.mp hb
    exact tT p hp
  have noS : ∀ {b : Addr} {o : Obj}, s1.heap.get? b = some o → (∀ l n, o.data ≠ .seq l n) → o.data ≠ .fields #[] → H b = none := fun {b o} e n1 n2 => by
    cases q : H b with
    | none => rfl
    | some u =>
      rcases Z.only b (by rw [q]; simp) with z | z
      · rw [z, ha] at e; cases e; exact (n1 _ _ rfl).elim
      · rw [inT b z] at e; cases e; exact (n2 rfl).elim
  have noD : ∀ {b : Addr} {o : Obj} {es : Array DictEntry} {ep : Nat}, s1.heap.get? b = some o → o.data = .dict es ep → H b = none := fun {b o es ep} e d =>
    noS e (fun l n z => by rw [d] at z; cases z) fun z => by rw [d] at z; cases z
  have hide : ∀ {b : Addr} {m : Str → Option Value}, s1.heap.Ns b m → (hidT s1.heap H).Ns b m := fun {b m} ⟨o, es, ep, e, d, r⟩ => ⟨o, es, ep, hidT_get e (noD e d), d, r⟩
  have KH : K.In (hidT s1.heap H) := fun b o e => hidT_get (KX b o e) (by
    cases q : H b with
    | none => rfl
    | some u =>
      rcases Z.only b (by rw [q]; simp) with z | z
      · rw [z] at e q; rw [Z.new (by rw [q]; simp)] at e; cases e
      · obtain ⟨p, hp, ep⟩ := List.mem_map.mp z
        rw [← ep, tK p hp] at e; cases e)
  have MH : L2.Mod K mg (hidT s1.heap H) := ⟨KH, hide nsg, ⟨mb, hide nsb, bb⟩, let ⟨mc, h1, h2⟩ := lim; ⟨mc, hide h1, h2⟩⟩
  have TB : ∀ p ∈ ts, LamX.TabB (hidT s1.heap H) mg p.1 p.2 := fun p hp => by
    refine ⟨?_, ?_, fun z => ?_⟩
    · obtain ⟨o, us, file, tf, flags, tg, inF, text, tt, e1, r1, r2, r3, r4, r5, r6, r7, r8, hne⟩ := tC p hp
      exact ⟨o, us, file, tf, flags, tg, inF, text, tt, hidT_get e1 (noS e1 (fun l n z => by rw [r2] at z; cases z) fun z => by rw [r2] at z; cases z; simp at r3), r1, r2, r3, r4, r5, r6, r7, r8, hne⟩
    · obtain ⟨bm, ob, b1, b2, b3, b4, b5, b6⟩ := bmn
      have nG : bm ≠ mainGlobals := fun q => by
        obtain ⟨o, es, ep, e, hd, _⟩ := nsg
        rw [q, e] at b3; cases b3; rw [hd] at b6; cases b6
      have nP : bm ≠ p.2 := fun q => by rw [q, tT p hp] at b3; cases b3; cases b6
      exact ⟨bm, ob, b1, b2, nG, nP, hidT_get b3 (noS b3 (fun l n z => by rw [b6] at z; cases z) fun z => by rw [b6] at z; cases z), b4, b5, b6⟩
    · obtain ⟨o, es, ep, e, hd, _⟩ := nsg
      rw [z, tT p hp] at e; cases e; cases hd
  have e0 : Env0 P w K mg (hidT s1.heap H) callerA [] s1 H := ⟨rfl, MH, fun b o e => of_hidT e, Nat.le_of_eq (hidT_size _ _), trivial, (fun b hb => absurd hb (by simp [frs])), Z.hok, .of_eq gs⟩
  refine codeAny_mono ((F _ KH (hide nsg) TB).go callerA [] s1 H ⟨[.ref a], []⟩ [.ref a] [.ref a] _ _ room e0 (bnd s1 (.ref a)) (.cons rfl .nil) want) fun r s' h => ?_
  match r, h with
  | .error e, h => exact (noX H e s' h).elim
  | .ok .next, h => exact h.elim
  | .ok .brk, h => exact h.elim
  | .ok .cont, h => exact h.elim
  | .ok (.ret u), ⟨v, H', os, bare, un, hok2, r2, q⟩ =>
    have q2 : v = .bl true := q
    subst q2
    obtain rfl : u = Value.bool true := r2
    have kept : ∀ b o, b ∉ ts.map (·.2) → s1.heap.get? b = some o → s'.heap.get? b = some o := fun b o nb e => by
      cases q : H b with
      | none => exact un.keep b o e q (by intro z; cases z) (by simp)
      | some u =>
        rcases Z.all b with z | z | ⟨ob, xs, z⟩
        · rw [q] at z; cases z
        · exact absurd z nb
        · obtain ⟨e1, _⟩ := Z.hok b _ z
          obtain ⟨e2, _⟩ := hok2 b _ (un.frzs b ob _ z)
          rw [e] at e1; cases e1
          exact e2
    have grown : ∀ p ∈ ts, ∃ more : Array Value, s'.heap.get? p.2 = some { cls := .none, data := .fields more } := fun p hp => by
      obtain ⟨more, z⟩ := un.tbls p.2 #[] (Z.tabs p hp)
      exact ⟨_, hok2 p.2 _ z⟩
    refine ⟨rfl, ⟨fun b o e => ?_, fun b o e => ?_⟩, os, bare⟩
    · by_cases hb : b ∈ ts.map (·.2)
      · obtain ⟨p, hp, rfl⟩ := List.mem_map.mp hb
        obtain ⟨more, hm⟩ := grown p hp
        rw [tT p hp] at e; cases e
        exact .inr (.inl ⟨((tC p hp).tab (tT p hp)).isCodeTable, rfl, #[], more, rfl, by rw [Array.empty_append]; exact hm⟩)
      · exact .inl (kept b o hb e)
    · by_cases hb : b ∈ ts.map (·.2)
      · obtain ⟨p, hp, rfl⟩ := List.mem_map.mp hb
        obtain ⟨more, hm⟩ := grown p hp
        exact ⟨_, hm⟩
      · exact ⟨o, kept b o hb e⟩
/-- such a heap there is -/
theorem at0_is (KX : K.In s1.heap) (tT : ∀ p ∈ ts, s1.heap.get? p.2 = some tab0) (ha : s1.heap.get? a = some (lst0 vs)) (hi : IntsAre vs ns) (hl : ns.length ≤ sizeLine) : ∃ H : Hp, At0 H P w K s1 ts a ns := by
  have rv := vals_ints hi
  have lv := hi.length
  have inT : ∀ b : Addr, b ∈ ts.map (·.2) → s1.heap.get? b = some tab0 := fun b hb => by
    obtain ⟨p, hp, rfl⟩ := List.mem_map.mp hb
    exact tT p hp
  have aT : a ∉ ts.map (·.2) := fun z => tab_lst (ha.symm.trans (inT a z))
  have mem : ∀ p ∈ ts, p.2 ∈ ts.map (·.2) := fun p hp => List.mem_map.mpr ⟨p, hp, rfl⟩
  cases hk : K.lookup a with
  | some o =>
    have e := KX a o hk
    rw [ha] at e; cases e
    refine ⟨fun b => if b ∈ ts.map (·.2) then some (.tbl #[]) else none, fun p hp => if_pos (mem p hp), fun b => ?_, .inr ⟨_, vs.toArray, _, hk, rfl, rfl, rfl, by rw [List.size_toArray, lv]; exact hl, by simpa using rv⟩, fun b u z => ?_, fun b z => ?_, fun z => absurd (if_neg aT) z⟩
    · by_cases hb : b ∈ ts.map (·.2)
      · exact .inr (.inl hb)
      · exact .inl (if_neg hb)
    · by_cases hb : b ∈ ts.map (·.2)
      · have z2 := (if_pos hb).symm.trans z; cases z2; exact inT b hb
      · have z2 := (if_neg hb).symm.trans z; cases z2
    · by_cases hb : b ∈ ts.map (·.2)
      · exact .inr hb
      · exact absurd (if_neg hb) z
  | none =>
    refine ⟨fun b => if b = a then some (.frz (lst0 vs) (.lst (ns.map V.int))) else if b ∈ ts.map (·.2) then some (.tbl #[]) else none, fun p hp => (if_neg (show ¬ p.2 = a from fun z => aT (by rw [← z]; exact mem p hp))).trans (if_pos (mem p hp)), fun b => ?_, .inl (.inr ⟨lst0 vs, if_pos rfl⟩), fun b u z => ?_, fun b z => ?_, fun _ => hk⟩
    · by_cases hb : b = a
      · exact .inr (.inr ⟨_, _, if_pos hb⟩)
      · by_cases hb2 : b ∈ ts.map (·.2)
        · exact .inr (.inl hb2)
        · exact .inl ((if_neg hb).trans (if_neg hb2))
    · by_cases hb : b = a
      · have z2 := (if_pos hb).symm.trans z; cases z2; rw [hb]
        exact ⟨ha, by rw [List.length_map]; exact hl, vs, _, rv, ha⟩
      · have z1 := (if_neg hb).symm.trans z
        by_cases hb2 : b ∈ ts.map (·.2)
        · have z2 := (if_pos hb2).symm.trans z1; cases z2; exact inT b hb2
        · have z2 := (if_neg hb2).symm.trans z1; cases z2
    · by_cases hb : b = a
      · exact .inl hb
      · by_cases hb2 : b ∈ ts.map (·.2)
        · exact .inr hb2
        · exact absurd ((if_neg hb).trans (if_neg hb2)) z
end
/-- what is known of the law's promise where the call starts: the tables of the defs that make lambdas, and the promise over them -/
def LawG (l : PySem.W.OpenLaw) (w : World) (K : PySem.W.Frag) (CX : CXT) (k n : Nat) (x : Str) (mg : Str → Option Value) (fa : Addr) (h : Heap) : Prop :=
  ∃ (fd : FuncData) (ts : List (Addr × Addr)) (sp : Sp), (∀ p ∈ ts, h.get? p.2 = some tab0) ∧ (∀ p ∈ ts, K.lookup p.2 = none) ∧ (∀ p ∈ ts, PySem.W.CodeHd h p.1 p.2) ∧ (∀ (s : Shared) (u : Value), BindsTo s fd ⟨[u], []⟩ [(x, u)]) ∧
    (∀ (H : Hp) (a : Addr) (ns : List Int), ns.length ≤ n → (∀ p ∈ ts, H p.2 = some (.tbl #[])) → SqL K H a (ns.map V.int) → sp [.ref a] H (fun v _ => v = .bl true) fun _ _ _ => False) ∧
    ∀ base : Heap, K.In base → base.Ns mainGlobals mg → (∀ p ∈ ts, LamX.TabB base mg p.1 p.2) → FnOk l.prog w K mg base CX k fa fd [x] sp
theorem walkG {l : PySem.W.OpenLaw} {n k : Nat} {q : Program} {loose : List Str} {XP : (Str → Option Value) → Heap → Prop} {YP : World → Heap → Prop} {d : DefRec} {K : Params → PySem.W.Frag} {x : Str}
    (hn : l.most = some n) (hn2 : n ≤ sizeLine) (hdf : d.params.defaults = []) (hr : Room k callerA) (hY : ∀ (w : World) (h : Heap), YP w h → (K w.params).In h)
    (F : ∀ (w : World) (mg mb : Str → Option Value) (fa : Addr) (h : Heap) (s₀ : Shared), PySem.W.Ground q loose [] XP w s₀ mg mb h → YP w h → (K w.params).In h → h.Ns mainGlobals mg → mg d.name = some (.ref fa) → LawG l w (K w.params) (L2.CX l.prog w) k n x mg fa h) :
    PySem.W.WalkO q loose XP YP l.row.toRowW d [] (fun f vs => PySem.call f vs) := by
  refine _root_.Att.attach_callB hn hdf fun w s₀ s₁ mg mb fa o pm cd doc a vs ns G Y ho hd hcd hmg hobj hints hlen hbits hg => ?_
  have KX := hY w _ Y
  obtain ⟨fd, ts, sp, tT, tK, tC, bnd, want, ok⟩ := F w mg mb fa _ s₀ G Y KX G.T.g hmg
  obtain ⟨H, Z⟩ := at0_is (P := l.prog) (w := w) (K := K w.params) (ts := ts) KX tT hobj hints (Nat.le_trans hlen hn2)
  exact law_goT KX G.T.g G.T.b G.T.builtins G.T.nolimit hg tT tK tC G.T.bmain hobj hr ok bnd (fun _ _ _ ⟨_, _, _, _, _, _, _, _, _, _, _, _, z⟩ => z) Z (want H a ns hlen Z.tabs Z.scr)
end Mp
set_option maxHeartbeats 4000000
set_option maxHeartbeats 4000000
set_option maxHeartbeats 4000000
namespace Mp
open PySem PySem.Spec PyProof.Rows L2
variable [TabsW] [GdW]
/-- the room of a lambda's body: nothing is known of the guards -/
theorem Room.plain {k : Nat} {A : Around} (h : L2.Room k A) : @Room ⟨False⟩ k A := @Room.mk ⟨False⟩ k A h (fun z => z.elim)
end Mp
set_option maxHeartbeats 4000000
set_option maxHeartbeats 2000000
namespace Mp
open PySem L2
mutual
theorem eqD_self : ∀ (n : Nat) (d : D), dataD n d = true → eqD d d = true
  | _, .non, _ => by rw [eqD]
  | _, .bl b, _ => by rw [eqD]; simp
  | _, .int i, _ => by rw [eqD]; simp
  | _, .str s, _ => by rw [eqD]; simp
  | 0, .lst ds, h => by simp [dataD] at h
  | 0, .tup ds, h => by simp [dataD] at h
  | n + 1, .lst ds, h => by rw [dataD] at h; rw [eqD]; exact eqDs_self n ds h
  | n + 1, .tup ds, h => by rw [dataD] at h; rw [eqD]; exact eqDs_self n ds h
  | 0, .obj _ _ _, h => by simp [dataD] at h
  | 0, .raw _, h => by simp [dataD] at h
  | n + 1, .obj _ _ _, h => by simp [dataD] at h
  | n + 1, .raw _, h => by simp [dataD] at h
  | 0, .dct, h => by simp [dataD] at h
  | n + 1, .dct, h => by simp [dataD] at h
  | 0, .dk _ _, h => by simp [dataD] at h
  | n + 1, .dk _ _, h => by simp [dataD] at h
  | 0, .err _ _ _, h => by simp [dataD] at h
  | n + 1, .err _ _ _, h => by simp [dataD] at h
  | 0, .fn _, h => by simp [dataD] at h
  | n + 1, .fn _, h => by simp [dataD] at h
theorem eqDs_self : ∀ (n : Nat) (ds : List D), dataDs n ds = true → eqDs ds ds = true
  | _, [], _ => by rw [eqDs]
  | n, d :: ds, h => by
    rw [dataDs, Bool.and_eq_true] at h
    rw [eqDs, eqD_self n d h.1, eqDs_self n ds h.2]; rfl
end
theorem cmp_nself {d : D} (h : dataD 20 d = true) : cmpD .ne d d = some false := by
  show (if dataD 20 d && dataD 20 d then some (!eqD d d) else none) = _
  rw [h, eqD_self 20 d h]; rfl
theorem dataDs_all {n : Nat} : ∀ {ds : List D}, (∀ d, d ∈ ds → dataD n d = true) → dataDs n ds = true
  | [], _ => by rw [dataDs]
  | d :: ds, h => by
    rw [dataDs, h d List.mem_cons_self, dataDs_all fun e he => h e (List.mem_cons_of_mem _ he)]; rfl
theorem dataD_tup {n : Nat} {ds : List D} (h : ∀ d, d ∈ ds → dataD n d = true) : dataD (n + 1) (.tup ds) = true := by rw [dataD]; exact dataDs_all h
section
variable [TabsW] [GdW]
theorem iota_map' (lo : Nat) : ∀ n, iotaD lo n = (List.range' lo n).map fun k : Nat => D.int (k : Int)
  | 0 => rfl
  | n + 1 => by
    rw [iotaD, List.range'_succ, List.map_cons, ← iota_map' (lo + 1) n]
    rfl
variable {G : Ctx}
end
end Mp
set_option maxHeartbeats 4000000
namespace Mp
open PySem L2
variable [TabsW]
def rInT (K : PySem.W.Frag) (neg : Bool) : R2 := fun x y H Q => ∃ d ds, Dp K H x d ∧ Dp K H y (.tuple ds) ∧ SeqAt.shaped d = true ∧ SeqAt.shaped (.tuple ds) = true ∧ Q (.bl (neg ^^ ds.any fun z => PyData.eqv z d)) H
section
variable {X : Cx}
theorem op_inT (hu : X.A.units + 65 < cLine) : OpR X (compareOp .In) (rInT X.K false) := by
  intro pins s σ H x y v u Q I rx ry h
  obtain ⟨d, ds, hd, he, sd, se, q⟩ := h
  obtain ⟨as, r1⟩ := Dp.reads I d x v hd rx
  obtain ⟨bs, r2⟩ := Dp.reads I (.tuple ds) y u he ry
  rw [Bool.false_xor] at q
  have a1 := SeqAt.depth_of_shaped sd
  exact SeqAt.in_tuple_reads r2 r1 (SeqAt.canLay_of_shaped se) (SeqAt.canLay_of_shaped sd) (by omega) ⟨.bl _, H, I, rfl, q⟩
end
def rSIn : R2 := fun x y H Q => ∃ i j, x = .str i ∧ y = .str j ∧ Q (.bl (!(Builtin.Str.occurrences j i 0 j.length 1).isEmpty)) H
theorem any_py (p : D) (a : PyData) (ea : toPy p = some a) : ∀ (ys : List D) (ps : List PyData), toPys ys = some ps → (ps.any fun z => PyData.eqv z a) = ys.any fun y => eqD y p
  | [], ps, h => by unfold toPys at h; cases h; rfl
  | y :: ys, ps, h => by
    unfold toPys at h
    cases e1 : toPy y with
    | none => rw [e1] at h; cases h
    | some b =>
      cases e2 : toPys ys with
      | none => rw [e1, e2] at h; cases h
      | some bs =>
        rw [e1, e2] at h; cases h
        rw [List.any_cons, List.any_cons, eqD_py y p b a e1 ea, any_py p a ea ys bs e2]
section
variable {K : PySem.W.Frag}
theorem datas_shaped {n : Nat} {ys : List D} (h : dataDs n ys = true) (hn : n < 64) : ∃ ps, toPys ys = some ps ∧ SeqAt.shaped (.list ps) = true ∧ SeqAt.shaped (.tuple ps) = true := by
  obtain ⟨ps, e, c, z⟩ := datas_py n ys h
  refine ⟨ps, e, ?_, ?_⟩
  · unfold SeqAt.shaped
    have c' : (PyData.list ps).canLay0 = true := c
    have z' : (PyData.list ps).depth ≤ 64 := by show PyData.depthAll ps + 1 ≤ 64; omega
    rw [c', decide_eq_true z']; rfl
  · unfold SeqAt.shaped
    have c' : (PyData.tuple ps).canLay0 = true := c
    have z' : (PyData.tuple ps).depth ≤ 64 := by show PyData.depthAll ps + 1 ≤ 64; omega
    rw [c', decide_eq_true z']; rfl
theorem s_in : CmS K (rOr rSIn (rOr (rInD K) (rInT K false))) .in_ := by
  intro M x y H p q z Q rp rq hM e k
  cases q with
  | str j =>
    cases p with
    | str i =>
      cases e
      exact .inl ⟨i, j, rp.str, rq.str, k _ _ Stp.refl (rep_bl _)⟩
    | _ => cases e
  | lst ys =>
    have e' : (if dataD 19 p && dataDs 19 ys then some (ys.any fun y => eqD y p) else none).map D.bl = some z := by cases p <;> exact e
    split at e'
    · rename_i hd
      cases e'
      rw [Bool.and_eq_true] at hd
      obtain ⟨a, ea, sa⟩ := shaped_of hd.1 (by decide)
      obtain ⟨b, eb, sb, _⟩ := datas_shaped hd.2 (by decide)
      refine .inr (.inl ⟨a, b, dp_of p x a rp.loose ea, dp_of (.lst ys) y _ rq.loose (by unfold toPy; rw [eb]; rfl), sa, sb, ?_⟩)
      rw [any_py p a ea ys b eb]
      exact k _ _ Stp.refl (rep_bl _)
    · cases e'
  | tup ys =>
    have e' : (if dataD 19 p && dataDs 19 ys then some (ys.any fun y => eqD y p) else none).map D.bl = some z := by cases p <;> exact e
    split at e'
    · rename_i hd
      cases e'
      rw [Bool.and_eq_true] at hd
      obtain ⟨a, ea, sa⟩ := shaped_of hd.1 (by decide)
      obtain ⟨b, eb, _, sb⟩ := datas_shaped hd.2 (by decide)
      refine .inr (.inr ⟨a, b, dp_of p x a rp.loose ea, dp_of (.tup ys) y _ rq.loose (by unfold toPy; rw [eb]; rfl), sa, sb, ?_⟩)
      rw [Bool.false_xor, any_py p a ea ys b eb]
      exact k _ _ Stp.refl (rep_bl _)
    · cases e'
  | _ => cases p <;> cases e
end
/-- no set display stands behind in -/
def setB : Expr → Bool
  | .Set _ _ _ => true
  | _ => false
theorem nomark_in {op : CmpOp} {b : Expr} (h : setB b = false) : behindInMarks op b = false := by cases b <;> first | rfl | cases h
section
variable {X : Cx} {G : Ctx} {W : WX} {a b : Expr} {a' b' : IR} {pos : Pos}
theorem hu65 [GdW] {A : Around} {k : Nat} (hr : Room k A) : A.units + 65 < cLine := by have := hr.r.un; omega
theorem o_in (hu : X.A.units + 65 < cLine) : OpR X (compareOp .In) (rOr rSIn (rOr (rInD X.K) (rInT X.K false))) := OpR.or op_in_str (OpR.or (op_inD hu) (op_inT hu))
theorem y_in (hu : X.A.units + 65 < cLine) (ha : PE X a (tI G W X.K a')) (hb : PE X b (tI G W X.K b')) (hs : setB b = false) : PT X (.Compare a [.In] [b] pos) (tIt G W X.K (.cmp .in_ a' b')) := t_cmp (o_in hu) s_in ha hb (nomark_in hs)
end
end Mp
set_option maxHeartbeats 8000000
namespace Mp
open PySem PySem.Spec PyProof PyProof.Rows L2
/-- a set of the ints ns -/
def rSetL (K : PySem.W.Frag) (w : World) : List V → Hp → VK → Prop := fun xs H Q => ∃ (l : Addr) (ns : List Int), xs = [V.ref l] ∧ SqL K H l (ns.map V.int) ∧ ns.length ≤ 4000 ∧ ∀ a c, H a = none → c ≤ ns.length → Q (.ref a) (upd H a (SetO w a (fun j => decide (j ∈ ns)) c))
variable [TabsW]
end Mp
set_option maxHeartbeats 4000000
set_option maxHeartbeats 4000000
namespace Mp
open PySem L2
variable [TabsW] [GdW]
section
variable {K : PySem.W.Frag} {H0 H H' H1 : Hp} {M0 A : AS} {e1 : Env} {σ : L2.St} {own : List Nat} {Dl : Addr}
/-- the state while such a loop goes: what is made so far stands at Dl -/
structure LA (K : PySem.W.Frag) (H0 H1 : Hp) (M0 A : AS) (e1 : Env) (σ : L2.St) (own : List Nat) (Dl : Addr) (n : Nat) (env : Env) (τ : L2.St) (acc : List D) (H : Hp) : Prop where
  ex : ∃ ys : List V, H Dl = some (.lst ys) ∧ ys.length ≤ n ∧ RepL K H (MM (fun a => M0 a ∨ a = Dl) env τ) acc ys
  E : EnvR K H0 (fun a => M0 a ∨ a = Dl) A env τ H
  st : Stp (WW A e1 σ) H1 H
  mu : ∀ a, MutAt env τ a → MutAt e1 σ a
  th : ∀ (j : Nat) (c : Cell), j ∉ own → e1[j]? = some (some c) → ∃ c', env[j]? = some (some c')
  io : ∀ (j : Nat) (ds : List D), j ∉ own → env[j]? = some (some (Cell.io ds)) → ∃ es, e1[j]? = some (some (Cell.io es))
  len : env.length = e1.length
  nA : ¬ A Dl
  n0 : ¬ Lv H0 Dl
  nD : H1 Dl = none
/-- more turns may go -/
theorem LA.more {n m : Nat} {env : Env} {τ : L2.St} {acc : List D} (L : LA K H0 H1 M0 A e1 σ own Dl n env τ acc H) (h : n ≤ m) : LA K H0 H1 M0 A e1 σ own Dl m env τ acc H := by
  obtain ⟨ys, h1, h2, h3⟩ := L.ex
  exact ⟨⟨ys, h1, Nat.le_trans h2 h, h3⟩, L.E, L.st, L.mu, L.th, L.io, L.len, L.nA, L.n0, L.nD⟩
/-- slots of its own are hidden -/
theorem LA.wipe {n : Nat} {env : Env} {τ : L2.St} {acc : List D} (L : LA K H0 H1 M0 A e1 σ own Dl n env τ acc H) (is : List Nat) (hi : ∀ j, j ∈ is → j ∈ own) : LA K H0 H1 M0 A e1 σ own Dl n (wipeE env is) (L2.wipe τ is) acc H := by
  obtain ⟨ys, h1, h2, h3⟩ := L.ex
  obtain ⟨E2, m2⟩ := L.E.wipe is
  refine ⟨⟨ys, h1, h2, RepL.stp Stp.refl (fun a z => z.elim .inl fun q => .inr (m2 a q)) acc ys h3⟩, E2, L.st, fun a z => L.mu a (m2 a z), fun j c hj h => ?_, fun j ds hj h => ?_, by rw [wipeE_len, L.len], L.nA, L.n0, L.nD⟩
  · rw [wipeE_out fun z => hj (hi j z)]; exact L.th j c hj h
  · rw [wipeE_out fun z => hj (hi j z)] at h; exact L.io j ds hj h
/-- a target is set -/
theorem LA.bind {n : Nat} {env env1 : Env} {τ τ' : L2.St} {acc : List D} {tg : Tgt} {d : D} (L : LA K H0 H1 M0 A e1 σ own Dl n env τ acc H) (hb : bindT tg d env = some env1) (ho : ∀ j, j ∈ tgOwn tg → j ∈ own)
    (E' : EnvR K H0 (fun a => M0 a ∨ a = Dl) A env1 τ' H) (u' : ∀ a, MutAt env1 τ' a → MutAt env τ a) : LA K H0 H1 M0 A e1 σ own Dl n env1 τ' acc H := by
  obtain ⟨ys, h1, h2, h3⟩ := L.ex
  obtain ⟨b1, b2⟩ := bind_out hb
  refine ⟨⟨ys, h1, h2, RepL.stp Stp.refl (fun a z => z.elim .inl fun q => .inr (u' a q)) acc ys h3⟩, E', L.st, fun a z => L.mu a (u' a z), fun j c hj h => ?_, fun j ds hj h => ?_, by rw [b2, L.len], L.nA, L.n0, L.nD⟩
  · rw [b1 j fun z => hj (ho j z)]; exact L.th j c hj h
  · rw [b1 j fun z => hj (ho j z)] at h; exact L.io j ds hj h
/-- one more -/
theorem LA.push {n : Nat} {env : Env} {τ : L2.St} {acc : List D} {d : D} {y : V} (L : LA K H0 H1 M0 A e1 σ own Dl n env τ acc H) (r : Rep K H (MM (fun a => M0 a ∨ a = Dl) env τ) d y) :
    ∃ ys, H Dl = some (.lst ys) ∧ ys.length ≤ n ∧ LA K H0 H1 M0 A e1 σ own Dl (n + 1) env τ (acc ++ [d]) (upd H Dl (.lst (ys ++ [y]))) := by
  obtain ⟨ys, h1, h2, h3⟩ := L.ex
  have st : Stp (MM (fun a => M0 a ∨ a = Dl) env τ) H (upd H Dl (.lst (ys ++ [y]))) := Stp.set (.inl (.inr rfl)) (pl_at h1)
  refine ⟨ys, h1, h2, ⟨⟨ys ++ [y], upd_same, by rw [List.length_append, List.length_singleton]; omega, RepL.append (RepL.stp st (fun _ z => z) acc ys h3) (RepL.cons (Rep.stp st (fun _ z => z) d y r) RepL.nil)⟩,
    L.E.setM (pl_at h1) (.inr rfl) L.nA L.n0, ⟨fun a o h k t => ?_, fun a h => mo_upd nt_lst a (L.st.mo a h), fun P q m h => tab_upd (pl_at h1) P q (L.st.tb P q m h), fun b fs h => xd_upd (pl_at h1) b fs (L.st.xd b fs h)⟩, L.mu, L.th, L.io, L.len, L.nA, L.n0, L.nD⟩⟩
  rw [upd_ne (ne_of_none h L.nD)]
  exact L.st.st a o h k t
end
end Mp
set_option maxHeartbeats 4000000
set_option maxHeartbeats 2000000
set_option maxHeartbeats 4000000
set_option maxHeartbeats 4000000
set_option maxHeartbeats 4000000
set_option maxHeartbeats 4000000
namespace Mp
open PySem
open L2 PyProof.Rows
variable [TabsW] [GdW]
theorem Sat.apart {α : Type} {K : PySem.W.Frag} {H0 H : Hp} {M0 M1 A : AS} {W : WX} {r : R α} {env : Env} {σ : L2.St} {P : α → Env → Hp → Prop} (hM : ∀ a, M0 a → M1 a) (hA : ∀ a, A a → M0 a) (q : Sat K H0 M0 A W r env σ H P) : Sat K H0 M1 A W r env σ H P := by
  cases r with
  | bad => exact q
  | ok o e' => exact fun H' s u E => q H' s u (E.less hM hA)
  | exc C f d e' => exact fun dd v H' s u E h r => q dd v H' s u (E.less hM hA) h (Rep.stp Stp.refl (fun a z => z.elim (fun w => .inl (hM a w)) .inr) d v r)
end Mp
namespace Mp
open PySem
open L2 PyProof.Rows
variable [TabsW] [GdW]
section
variable {X : Cx} {G : Ctx} {W : WX}
theorem SatS.from {α : Type} {K : PySem.W.Frag} {H0 H H1 : Hp} {M0 A : AS} {env e1 : Env} {σ : L2.St} {r : R α} {f : α → Env → SR} {D : Ends} (h : SatS K H0 M0 A W (r.toS f) env σ H D) (s : Stp (WW A env σ) H H1) (u : Sub σ env e1) : Sat K H0 M0 A W r e1 σ H1 fun a e2 _ => SatS K H0 M0 A W (f a e2) env σ H D := by
  cases r with
  | bad => exact h
  | exc C n d e' => exact fun dd v H' s' u' E' => h σ dd v H' (s.sTrans u.toS s') (u.trans u').toS E'
  | ok a e' => exact fun H' s' u' E' => h
end
end Mp
set_option maxHeartbeats 4000000
namespace Mp
open PySem L2
variable [TabsW] [GdW]
section
variable {G : Ctx}
theorem call_ok {j : Nat} {es : List IR} {env env1 : Env} {f : Fn} {ds out : List D} {d : D} (hc : ev G (.call j es) env = (evs G es env).bind fun ds e1 => runF e1 (f.sem ds)) (he : evs G es env = .ok ds env1) (hs : f.sem ds = .ok d out) : ev G (.call j es) env = .ok (.val d) env1 := by
  rw [hc, he]
  show runF env1 (f.sem ds) = _
  rw [hs]; rfl
theorem evs0 {E : Env} : evs G [] E = .ok [] E := by rw [evs]
theorem evs_cons {a : IR} {as : List IR} {E E1 E2 : Env} {d : D} {ds : List D} (h : ev G a E = .ok (.val d) E1) (h2 : evs G as E1 = .ok ds E2) : evs G (a :: as) E = .ok (d :: ds) E2 := by
  rw [evs, h]
  show (evs G as E1).bind _ = _
  rw [h2]; rfl
theorem evs1 {a : IR} {E E1 : Env} {d : D} (h : ev G a E = .ok (.val d) E1) : evs G [a] E = .ok [d] E1 := evs_cons h evs0
theorem evs2 {a b : IR} {E E1 E2 : Env} {d c : D} (h : ev G a E = .ok (.val d) E1) (h2 : ev G b E1 = .ok (.val c) E2) : evs G [a, b] E = .ok [d, c] E2 := evs_cons h (evs1 h2)
theorem evs3 {a b c : IR} {E E1 E2 E3 : Env} {d e f : D} (h : ev G a E = .ok (.val d) E1) (h2 : ev G b E1 = .ok (.val e) E2) (h3 : ev G c E2 = .ok (.val f) E3) : evs G [a, b, c] E = .ok [d, e, f] E3 := evs_cons h (evs2 h2 h3)
theorem x_v {i : Nat} {E : Env} {d : D} (h : E[i]? = some (some (.dat d))) : ev G (.v i) E = .ok (.val d) E := by
  rw [evq_v]; unfold cellAt; rw [h]; rfl
theorem x_c {E : Env} {d : D} : ev G (.c d) E = .ok (.val d) E := evq_c
theorem x_bin {op : BOp} {a b : IR} {E E1 E2 : Env} {x y z : D} (h : ev G a E = .ok (.val x) E1) (h2 : ev G b E1 = .ok (.val y) E2) (h3 : binD op x y = some z) : ev G (.bin op a b) E = .ok (.val z) E2 := by
  rw [evq_bin, h]
  show ((ev G b E1).bind fun y e2 => match rdO e2 (.val x), rdO e2 y with
    | some p, some q => lift e2 (binD op p q)
    | _, _ => .bad) = _
  rw [h2]
  show lift E2 (binD op x y) = _
  rw [h3]; rfl
theorem x_cmp {op : COp} {a b : IR} {E E1 E2 : Env} {x y : D} {z : Bool} (h : ev G a E = .ok (.val x) E1) (h2 : ev G b E1 = .ok (.val y) E2) (h3 : cmpD op x y = some z) : ev G (.cmp op a b) E = .ok (.val (.bl z)) E2 := by
  rw [evq_cmp, h]
  show ((ev G b E1).bind fun y e2 => match rdO e2 (.val x), rdO e2 y with
    | some p, some q => lift e2 ((cmpD op p q).map .bl)
    | _, _ => .bad) = _
  rw [h2]
  show lift E2 ((cmpD op x y).map .bl) = _
  rw [h3]; rfl
theorem x_or_f {a b : IR} {E E1 : Env} {x : D} (h : ev G a E = .ok (.val x) E1) (ht : truD x = some false) : ev G (.or_ a b) E = ev G b E1 := by
  rw [evq_or_, h]
  show (match (rdO E1 (.val x)).bind truD with
    | some true => R.ok (Opd.val x) E1
    | some false => ev G b E1
    | none => R.bad) = _
  rw [show (rdO E1 (.val x)).bind truD = some false from ht]
theorem x_tup {es : List IR} {E E1 : Env} {ds : List D} (h : evs G es E = .ok ds E1) (hl : ds.length ≤ BIG) : ev G (.tup es) E = .ok (.val (.tup ds)) E1 := by
  rw [evq_tup, h]
  show (if ds.length ≤ BIG then _ else _) = _
  rw [if_pos hl]
theorem x_lst {es : List IR} {E E1 : Env} {ds : List D} (h : evs G es E = .ok ds E1) (hl : ds.length ≤ BIG) : ev G (.lst es) E = .ok (.val (.lst ds)) E1 := by
  rw [evq_lst, h]
  show (if ds.length ≤ BIG then _ else _) = _
  rw [if_pos hl]
theorem x_ix {a b : IR} {E E1 E2 : Env} {x y z : D} (h : ev G a E = .ok (.val x) E1) (h2 : ev G b E1 = .ok (.val y) E2) (h3 : ixD x y = some z) : ev G (.ix a b) E = .ok (.val z) E2 := by
  rw [evq_ix, h]
  show ((ev G b E1).bind fun y e2 => match rdO e2 (.val x), rdO e2 y with
    | some p, some q => lift e2 (ixD p q)
    | _, _ => .bad) = _
  rw [h2]
  show lift E2 (ixD x y) = _
  rw [h3]; rfl
theorem take_okD {e : IR} {E E1 : Env} {d : D} (h : ev G e E = .ok (.val d) E1) : (ev G e E).take = .ok d E1 := by rw [h]; rfl
theorem tru_valB {e : IR} {E E1 : Env} {d : D} {b : Bool} (h : ev G e E = .ok (.val d) E1) (ht : truD d = some b) : truR (ev G e E) = .ok b E1 := by
  rw [h]
  show (match (rdO E1 (.val d)).bind truD with
    | some b => R.ok b E1
    | none => .bad) = _
  rw [show (rdO E1 (.val d)).bind truD = some b from ht]
theorem t_asg {i : Nat} {e : IR} {E E1 E2 : Env} {d : D} (h : ev G e E = .ok (.val d) E1) (hb : bindT (.name i) d E1 = some E2) : evS G (.asg (.name i) e) E = .nx E2 := by
  rw [evS, take_okD h]
  show (match bindT (.name i) d E1 with
    | some e2 => SR.nx e2
    | none => .bad) = _
  rw [hb]
theorem t_if_f {e : IR} {A B : List ST} {E E1 : Env} {d : D} (h : ev G e E = .ok (.val d) E1) (ht : truD d = some false) : evS G (.if_ e A B) E = evSs G B E1 := by
  rw [evS, tru_valB h ht]; rfl
theorem t_if_t {e : IR} {A B : List ST} {E E1 : Env} {d : D} (h : ev G e E = .ok (.val d) E1) (ht : truD d = some true) : evS G (.if_ e A B) E = evSs G A E1 := by
  rw [evS, tru_valB h ht]; rfl
theorem t_if_f0 {e : IR} {A : List ST} {E E1 : Env} (h : ev G e E = .ok (.val (.bl false)) E1) : evS G (.if_ e A []) E = .nx E1 := by
  rw [t_if_f h rfl, evSs]
theorem t_ret {e : IR} {E E1 : Env} {d : D} (h : ev G e E = .ok (.val d) E1) : evS G (.ret e) E = .rt d E1 := by
  rw [evS, take_okD h]; rfl
theorem ss_nx {s : ST} {ss : List ST} {E E1 : Env} (h : evS G s E = .nx E1) : evSs G (s :: ss) E = evSs G ss E1 := by
  rw [evSs, h]; rfl
theorem ss_rt {s : ST} {ss : List ST} {E E1 : Env} {d : D} (h : evS G s E = .rt d E1) : evSs G (s :: ss) E = .rt d E1 := by
  rw [evSs, h]; rfl
theorem ss0 {E : Env} : evSs G [] E = .nx E := by rw [evSs]
theorem t_for {tg : Tgt} {it : IT} {b : List ST} {E E1 : Env} {ds : List D} {r : SR} (h : evi G it E = .ok ds E1) (hf : forL tg (fun e => evSs G b e) ds E1 = r) : evS G (.for_ tg it b) E = r := by
  rw [evS, h]; exact hf
/-- a def without a changed argument -/
theorem sem_rt {m : Nat} {b : List ST} {ds : List D} {d : D} {e : Env} (h : evSs G b (startE none m ds) = .rt d e) : semB G m none b ds = .ok d [] := by
  rw [semB, h]; rfl
/-- a for whose turns all go on, an invariant kept -/
theorem forL_keep {α : Type} {tg : Tgt} {body : Env → SR} (f : α → D) (Inv : Env → Prop) : ∀ (l : List α) (env : Env), Inv env → (∀ a, a ∈ l → ∀ env, Inv env → ∃ e1 e2, bindT tg (f a) env = some e1 ∧ body e1 = .nx e2 ∧ Inv e2) → ∃ e, forL tg body (l.map f) env = .nx e ∧ Inv e
  | [], env, h, _ => ⟨env, rfl, h⟩
  | a :: l, env, h, st => by
    obtain ⟨e1, e2, h1, h2, h3⟩ := st a List.mem_cons_self env h
    obtain ⟨e, k1, k2⟩ := forL_keep f Inv l e2 h3 fun b hb => st b (List.mem_cons_of_mem _ hb)
    refine ⟨e, ?_, k2⟩
    rw [List.map_cons, forL, h1]
    dsimp only
    rw [h2]
    exact k1
end
end Mp
set_option maxHeartbeats 4000000
set_option maxHeartbeats 4000000
set_option maxHeartbeats 4000000
set_option maxHeartbeats 4000000
namespace Mp
open PySem L2 PyProof.Rows
variable [TabsW] [GdW]
section
variable {X : Cx} {G : Ctx} {W : WX}
theorem RepL.rev {K : PySem.W.Frag} {H : Hp} {M : AS} : ∀ {ds : List D} {xs : List V}, RepL K H M ds xs → RepL K H M ds.reverse xs.reverse
  | [], xs, r => by
    have : xs = [] := by unfold RepL at r; exact r
    rw [this] at r ⊢; exact r
  | d :: ds, xs, r => by
    have r' := r
    unfold RepL at r'
    obtain ⟨x, ys, rfl, h1, h2⟩ := r'
    rw [List.reverse_cons, List.reverse_cons]
    exact (RepL.rev h2).append (by unfold RepL; exact ⟨x, [], rfl, h1, by unfold RepL; rfl⟩)
end
end Mp
set_option maxHeartbeats 4000000
set_option maxHeartbeats 4000000
set_option maxHeartbeats 4000000
set_option maxHeartbeats 4000000
set_option maxHeartbeats 4000000
set_option maxHeartbeats 4000000
set_option maxHeartbeats 4000000
namespace Mp
open PySem L2 PyProof.Rows
variable [TabsW] [GdW]
section
variable {X : Cx} {G : Ctx} {W : WX}
section
variable {K : PySem.W.Frag} {H0 H H' : Hp} {M0 A : AS} {env env' : Env} {σ : L2.St}
/-- one more place that is set apart -/
theorem EnvR.more (E : EnvR K H0 M0 A env σ H) {p : Addr} (s : Stp NoA H H') (hp : ¬ Lv H p) (h' : Lv H' p) : EnvR K H0 (fun a => M0 a ∨ a = p) A env σ H' := by
  have st : Stp (MM (fun a => M0 a ∨ a = p) env σ) H H' := s.weak fun _ z => z.elim
  have gr : ∀ x, MM (fun a => M0 a ∨ a = p) env σ x → MM M0 env σ x ∨ ¬ Lv H x := fun x z => z.elim (fun z => z.elim (fun z => .inl (.inl z)) (fun z => .inr (z ▸ hp))) (fun z => .inl (.inr z))
  refine ⟨E.len, fun a o h n t => s.st a o (E.old a o h n t) id t, fun a h => s.mo a (E.alive a h), fun P q h => s.tb P q h (E.tb P q h), fun a h => h.elim (fun z => s.mo a (E.m0 a z)) (fun z => z ▸ h'), fun a h => .inl (E.aM a h), E.a1, fun i d h => ?_, fun i ds h => ?_, fun i ds h => ?_, E.inj, E.io1, E.slf⟩
  · obtain ⟨v, a1, a2⟩ := E.dat i d h
    exact ⟨v, a1, Rep.stp st (fun _ z => z) d v (Rep.grow gr d v a2)⟩
  · obtain ⟨a, xs, a1, a2, a3, a4, a5⟩ := E.own i ds h
    exact ⟨a, xs, a1, s.st a _ a2 id nt_lst, RepL.stp st (fun _ z => z) ds xs (RepL.grow gr ds xs a3), fun z => z.elim a4 fun z => hp (z ▸ Lv.lst a2), a5⟩
  · obtain ⟨a, xs, a1, a2, a3, a4⟩ := E.io i ds h
    exact ⟨a, xs, a1, a2, s.st a _ a3 id nt_lst, RepL.stp st (fun _ z => z) ds xs (RepL.grow gr ds xs a4)⟩
/-- it is set apart no more, and may have been changed -/
theorem EnvR.drop {p : Addr} (E : EnvR K H0 (fun a => M0 a ∨ a = p) A env σ H) (hA : ∀ a, A a → M0 a) (h0 : ¬ Lv H0 p) (hn : ¬ A p) (s : Stp (fun a => a = p) H H') : EnvR K H0 M0 A env σ H' := by
  have st : Stp (MM (fun a => M0 a ∨ a = p) env σ) H H' := s.weak fun _ z => .inl (.inr z)
  have le : ∀ x, MM M0 env σ x → MM (fun a => M0 a ∨ a = p) env σ x := fun x z => z.elim (fun z => .inl (.inl z)) .inr
  refine ⟨E.len, fun a o h n t => s.st a o (E.old a o h n t) (fun z => h0 (z ▸ ⟨o, h, t⟩)) t, fun a h => s.mo a (E.alive a h), fun P q h => s.tb P q h (E.tb P q h), fun a h => s.mo a (E.m0 a (.inl h)), hA, E.a1, fun i d h => ?_, fun i ds h => ?_, fun i ds h => ?_, E.inj, E.io1, E.slf⟩
  · obtain ⟨v, a1, a2⟩ := E.dat i d h
    exact ⟨v, a1, Rep.stp st le d v a2⟩
  · obtain ⟨a, xs, a1, a2, a3, a4, a5⟩ := E.own i ds h
    exact ⟨a, xs, a1, s.st a _ a2 (fun z => a4 (.inr z)) nt_lst, RepL.stp st le ds xs a3, fun z => a4 (.inl z), a5⟩
  · obtain ⟨a, xs, a1, a2, a3, a4⟩ := E.io i ds h
    exact ⟨a, xs, a1, a2, s.st a _ a3 (fun z => hn (z ▸ a2)) nt_lst, RepL.stp st le ds xs a4⟩
theorem Sat.more {α : Type} {W : WX} {r : R α} {P : α → Env → Hp → Prop} {H1 : Hp} {p : Addr} (E : EnvR K H0 M0 A env σ H) (h0 : ¬ Lv H0 p) (hn : ¬ A p) (s0 : Stp NoA H H1) (q : Sat K H0 M0 A W r env σ H P) :
    Sat K H0 (fun a => M0 a ∨ a = p) A W r env σ H1 fun x e1 H2 => EnvR K H0 (fun a => M0 a ∨ a = p) A e1 σ H2 ∧ Stp (WW A env σ) H1 H2 ∧ Sub σ env e1 ∧ P x e1 H2 := by
  cases r with
  | bad => exact q
  | ok x e1 => exact fun H2 s u E2 => ⟨E2, s, u, q H2 (s0.no.trans s) u (E2.drop E.aM h0 hn Stp.refl)⟩
  | exc C f d e1 => exact fun dd v H2 s u E2 hd rd => q dd v H2 (s0.no.trans s) u (E2.drop E.aM h0 hn Stp.refl) hd (Rep.stp Stp.refl (fun x z => z.elim (fun z => .inl (.inl z)) .inr) d v rd)
end
end
end Mp
set_option maxHeartbeats 4000000
set_option maxHeartbeats 4000000
set_option maxHeartbeats 4000000
set_option maxHeartbeats 4000000
set_option maxHeartbeats 4000000
set_option maxHeartbeats 4000000
set_option maxHeartbeats 4000000
set_option maxHeartbeats 4000000
set_option maxHeartbeats 4000000
namespace L2
open PySem PySem.Spec PyProof.Rows
section
variable {prog : Program} {w : World} {A : Around} {R : Result → Shared → Prop} {s : Shared} {elt tg : Expr} {gs : List Comprehension} {scope : Scope} {pos : Pos} {k : Nat} {p : Pos} {it acc : Value} {env : Env} {rest : Sem Fin}
/-- one clause's turn, without tests -/
def turnC (ce tg : Expr) (k : Nat) (p : Pos) (it acc : Value) (env : Env) (rest : Sem Fin) : Sem Fin := do
  standAt p
  match ← pyNext it with
  | none => pure (.done .next)
  | some v =>
    letOwnedTupleGo tg it v
    assign tg env v
    rest
/-- the loop of a clause -/
theorem loopC (ht : compTurn (.ListComp elt gs scope pos) k it acc env = turnC (.ListComp elt gs scope pos) tg k p it acc env rest) (I : Nat → Shared → Prop)
    (turn : ∀ n s, I n s → wpAny (model prog w) A (pyNext it) (fun r s1 => match r with
      | none => R (.ok .next) s1
      | some v => wpAny (model prog w) A (letOwnedTupleGo tg it v) (fun _ s2 => wpAny (model prog w) A (assign tg env v) (fun _ s3 =>
          wpAny (model prog w) A rest (fun fin s4 => fin = .again (.compLoop (.ListComp elt gs scope pos) k it acc env) ∧ ∃ m, m < n ∧ I m s4) (fun _ _ => False) s3) (fun _ _ => False) s2) (fun _ _ => False) s1) (fun _ _ => False) s)
    (n : Nat) (h : I n s) : codeAny (model prog w) A (.compLoop (.ListComp elt gs scope pos) k it acc env) R s := by
  refine codeAny_loop rfl I (fun n s hI => ?_) n h
  show wpAny _ A ((compTurn (.ListComp elt gs scope pos) k it acc env).onRaise (fun x => do noteFrame x env; theTreesLotGoes x)) _ _ s
  refine wpAny_noted ?_
  rw [ht]
  unfold turnC
  refine wpAny_bind (wpAny_standAt (wpAny_bind (thnF (turn n s hI) fun r s1 h1 => ?_)))
  cases r with
  | none => exact wpAny_pure h1
  | some v => exact wpAny_bind (thnF h1 fun _ s2 h2 => wpAny_bind (thnF h2 fun _ s3 h3 => thnF h3 fun fin s4 ⟨e, h4⟩ => by subst e; exact ⟨rfl, h4⟩))
end
section
variable {Xb : Cx} {elt tg : Expr} {gs : List Comprehension} {scope : Scope} {pos : Pos} {k : Nat} {p : Pos} {it : Addr} {acc : Value} {env : Env} {rest : Sem Fin}
/-- a walk: T the turns, W what holds between two of them, B what the rest of a turn asks -/
theorem walkG {g : TG} {J : It} {fp : List Addr} {tn : Nat → Heap → Prop} {pins : List (Addr × Obj)} {σw : St} {W : Nat → Nat → Hp → Prop} {Stop : Hp → Prop} {B : (Hp → Prop) → St → Hp → Prop} {R : Result → Shared → Prop} {s : Shared} {H : Hp} {m0 : Nat}
    (hc : Xb.calm = true) (he : Xb.env = env) (ht : compTurn (.ListComp elt gs scope pos) k (.ref it) acc env = turnC (.ListComp elt gs scope pos) tg k p (.ref it) acc env rest) (T : Turn Xb.prog Xb.w Xb.K tg J fp it tn) (pg : PG Xb tg g)
    (stat : ∀ {σ' : St} {H' : Hp} {s' : Shared}, Inv Xb pins σ' H' s' → (∀ b ∈ fp, H' b = none) → ∀ b ∈ fp, FpOk Xb pins H' b)
    (step : ∀ i m H, W i m H → (J.stop i H ∧ Stop H) ∨ (J.go i H ∧ ∃ Nx : Hp → Prop, (∀ H', Nx H' → ∃ m', m' < m ∧ W (i + 1) m' H') ∧ ∀ x H', J.yld i H x H' → g x σw H' fun σ2 H2 => B Nx σ2 H2))
    (body : ∀ (pins2 : List (Addr × Obj)) (σ2 : St) (H2 : Hp) (s2 : Shared) (Nx : Hp → Prop), Inv Xb (pins ++ pins2) σ2 H2 s2 → B Nx σ2 H2 →
      wpAny (model Xb.prog Xb.w) Xb.A rest (fun fin s3 => fin = .again (.compLoop (.ListComp elt gs scope pos) k (.ref it) acc env) ∧ ∃ σ3 H3, Inv Xb (pins ++ pins2) σ3 H3 s3 ∧ σw.length = σ3.length ∧ (∀ (j : Nat) v, σw[j]? = some (some v) → σ3[j]? = some (some v)) ∧ Nx H3) (fun _ _ => False) s2)
    (hx : ∀ e s, ¬ Xb.xe e s) (hR : ∀ H' s', Inv Xb pins σw H' s' → Stop H' → R (.ok .next) s')
    (I : Inv Xb pins σw H s) (st : tn 0 s.heap) (n0 : ∀ b ∈ fp, H b = none) (w0 : W 0 m0 H) :
    codeAny (model Xb.prog Xb.w) Xb.A (.compLoop (.ListComp elt gs scope pos) k (.ref it) acc env) R s := by
  refine loopC ht (fun n s' => ∃ i H', Inv Xb pins σw H' s' ∧ tn i s'.heap ∧ (∀ b ∈ fp, H' b = none) ∧ W i n H') ?_ m0 ⟨0, H, I, st, n0, w0⟩
  rintro n s5 ⟨i, H5, I5, st5, n5, w5⟩
  rcases step i n H5 w5 with ⟨stop, qq⟩ | ⟨go, Nx, hNx, turn⟩
  · refine thnF (T.done Xb rfl rfl rfl hc i pins s5 σw H5 (fun _ _ => False) I5 (stat I5 n5) st5 stop) fun r s6 ⟨hr, I6⟩ => ?_
    subst hr
    exact hR H5 s6 I6 qq
  · refine thnF (T.item Xb rfl rfl rfl hc i pins s5 σw H5 (fun _ _ => False) I5 (stat I5 n5) st5 go) fun r s6 ⟨u, hr, h6⟩ => ?_
    subst hr
    refine thnF h6 fun _ s7 ⟨x, H7, I7, r7, y7, st7, n7⟩ => ?_
    have I7' := I7.pinned (stat I7 n7) (T.obj _ _ st7)
    have hp := pg.run _ s7 σw H7 x u _ I7' r7 (turn x H7 y7)
    rw [he] at hp
    refine wpAny_mono hp (fun _ s8 ⟨σ8, H8, I8, q8⟩ => ?_) fun e s' z => hx e s' z
    refine thnF (body _ σ8 H8 s8 Nx I8 q8) fun fin s9 ⟨ef, σ9, H9, I9, hl, hk, nx⟩ => ?_
    obtain ⟨m', hm, w'⟩ := hNx H9 nx
    have pin' : ∀ b ∈ fp, ∀ o, s7.heap.get? b = some o → s9.heap.get? b = some o ∧ H9 b = none := fun b hb o e =>
      let z := I9.pin (b, o) (List.mem_append_right _ (List.mem_append_right _ (mem_pinsAt hb e)))
      ⟨z.1, z.2.1⟩
    refine ⟨ef, m', hm, i + 1, H9, I9.unpinned.weak hl hk, T.keep _ _ _ st7 fun b hb o e => (pin' b hb o e).1, fun b hb => ?_, w'⟩
    obtain ⟨o, e, _⟩ := T.obj _ _ st7 b hb
    exact (pin' b hb o e).2
end
end L2
set_option maxHeartbeats 4000000
namespace L2
open PySem PySem.Spec PyProof.Rows
end L2
set_option maxHeartbeats 4000000
namespace Mp
open PySem L2
variable [TabsW] [GdW]
section
variable {G : Ctx} {W : WX} {K : PySem.W.Frag} {H0 H1 : Hp} {M0 A : AS} {e1 eb : Env} {σ σb : L2.St} {own : List Nat} {Dl : Addr}
/-- what is known of the heap stays known while a turn goes -/
structure ZOk (A : AS) (Dl : Addr) (Z : Hp → Prop) (eb : Env) (σb : L2.St) : Prop where
  go : ∀ H H' env τ, Z H → (∀ a, MutAt env τ a → MutAt eb σb a) → Stp (WW A env τ) H H' → Z H'
  no : ∀ H H', Z H → Stp NoA H H' → Z H'
  set : ∀ H ys zs, Z H → H Dl = some (.lst ys) → Z (upd H Dl (.lst zs))
theorem ZOk.start (hD : H1 Dl = none) : ZOk A Dl (fun H => Stp (WW A e1 σ) H1 H) e1 σ :=
  ⟨fun H H' env τ h m s => h.trans (s.weak fun a x => x.elim .inl fun q => .inr (m a q)), fun H H' h s => h.trans s.no, fun H ys zs h e => by
    refine ⟨fun a o g k t => ?_, fun a g => mo_upd nt_lst a (h.mo a g), fun P q m g => tab_upd (pl_at e) P q (h.tb P q m g), fun b fs g => xd_upd (pl_at e) b fs (h.xd b fs g)⟩
    rw [upd_ne (ne_of_none g hD)]
    exact h.st a o g k t⟩
end
end Mp
set_option maxHeartbeats 4000000
set_option maxHeartbeats 4000000
namespace Mp
open PySem L2
variable [TabsW] [GdW]
section
variable {K : PySem.W.Frag} {H0 H H' H1 : Hp} {M0 A : AS} {e1 : Env} {σ : L2.St} {own : List Nat} {Dl : Addr}
theorem pl_dK {xs : List (Key × V)} : Pl (.dK xs) := ⟨nt_dK, (fun _ _ z => by unfold LamX.CodeO at z; cases z), (fun _ z => by cases z)⟩
theorem pl_atk {H : Hp} {p : Addr} {xs : List (Key × V)} (h : H p = some (.dK xs)) : ∀ u, H p = some u → Pl u := fun u z => by rw [h] at z; cases z; exact pl_dK
/-- the state while such a loop goes: what is made so far stands at Dl -/
structure LK (K : PySem.W.Frag) (H0 H1 : Hp) (M0 A : AS) (e1 : Env) (σ : L2.St) (own : List Nat) (Dl : Addr) (n : Nat) (env : Env) (τ : L2.St) (acc : List (Key × D)) (H : Hp) : Prop where
  ex : ∃ ys : List V, H Dl = some (.dK ((acc.map (·.1)).zip ys)) ∧ ys.length ≤ n ∧ RepL K H (MM (fun a => M0 a ∨ a = Dl) env τ) (acc.map (·.2)) ys
  E : EnvR K H0 (fun a => M0 a ∨ a = Dl) A env τ H
  st : Stp (WW A e1 σ) H1 H
  mu : ∀ a, MutAt env τ a → MutAt e1 σ a
  th : ∀ (j : Nat) (c : Cell), j ∉ own → e1[j]? = some (some c) → ∃ c', env[j]? = some (some c')
  io : ∀ (j : Nat) (ds : List D), j ∉ own → env[j]? = some (some (Cell.io ds)) → ∃ es, e1[j]? = some (some (Cell.io es))
  len : env.length = e1.length
  nA : ¬ A Dl
  n0 : ¬ Lv H0 Dl
  nD : H1 Dl = none
/-- more turns may go -/
theorem LK.more {n m : Nat} {env : Env} {τ : L2.St} {acc : List (Key × D)} (L : LK K H0 H1 M0 A e1 σ own Dl n env τ acc H) (h : n ≤ m) : LK K H0 H1 M0 A e1 σ own Dl m env τ acc H := by
  obtain ⟨ys, h1, h2, h3⟩ := L.ex
  exact ⟨⟨ys, h1, Nat.le_trans h2 h, h3⟩, L.E, L.st, L.mu, L.th, L.io, L.len, L.nA, L.n0, L.nD⟩
/-- slots of its own are hidden -/
theorem LK.wipe {n : Nat} {env : Env} {τ : L2.St} {acc : List (Key × D)} (L : LK K H0 H1 M0 A e1 σ own Dl n env τ acc H) (is : List Nat) (hi : ∀ j, j ∈ is → j ∈ own) : LK K H0 H1 M0 A e1 σ own Dl n (wipeE env is) (L2.wipe τ is) acc H := by
  obtain ⟨ys, h1, h2, h3⟩ := L.ex
  obtain ⟨E2, m2⟩ := L.E.wipe is
  refine ⟨⟨ys, h1, h2, RepL.stp Stp.refl (fun a z => z.elim .inl fun q => .inr (m2 a q)) (acc.map (·.2)) ys h3⟩, E2, L.st, fun a z => L.mu a (m2 a z), fun j c hj h => ?_, fun j ds hj h => ?_, by rw [wipeE_len, L.len], L.nA, L.n0, L.nD⟩
  · rw [wipeE_out fun z => hj (hi j z)]; exact L.th j c hj h
  · rw [wipeE_out fun z => hj (hi j z)] at h; exact L.io j ds hj h
/-- a target is set -/
theorem LK.bind {n : Nat} {env env1 : Env} {τ τ' : L2.St} {acc : List (Key × D)} {tg : Tgt} {d : D} (L : LK K H0 H1 M0 A e1 σ own Dl n env τ acc H) (hb : bindT tg d env = some env1) (ho : ∀ j, j ∈ tgOwn tg → j ∈ own)
    (E' : EnvR K H0 (fun a => M0 a ∨ a = Dl) A env1 τ' H) (u' : ∀ a, MutAt env1 τ' a → MutAt env τ a) : LK K H0 H1 M0 A e1 σ own Dl n env1 τ' acc H := by
  obtain ⟨ys, h1, h2, h3⟩ := L.ex
  obtain ⟨b1, b2⟩ := bind_out hb
  refine ⟨⟨ys, h1, h2, RepL.stp Stp.refl (fun a z => z.elim .inl fun q => .inr (u' a q)) (acc.map (·.2)) ys h3⟩, E', L.st, fun a z => L.mu a (u' a z), fun j c hj h => ?_, fun j ds hj h => ?_, by rw [b2, L.len], L.nA, L.n0, L.nD⟩
  · rw [b1 j fun z => hj (ho j z)]; exact L.th j c hj h
  · rw [b1 j fun z => hj (ho j z)] at h; exact L.io j ds hj h
/-- one more -/
theorem LK.push {n : Nat} {env : Env} {τ : L2.St} {acc : List (Key × D)} {k : Key} {d : D} {y : V} (L : LK K H0 H1 M0 A e1 σ own Dl n env τ acc H) (hk : ∀ p, p ∈ acc → p.1 ≠ k) (r : Rep K H (MM (fun a => M0 a ∨ a = Dl) env τ) d y) :
    ∃ kvs, H Dl = some (.dK kvs) ∧ kvs.length ≤ n ∧ LK K H0 H1 M0 A e1 σ own Dl (n + 1) env τ (acc ++ [(k, d)]) (upd H Dl (.dK (putK kvs k y))) := by
  obtain ⟨ys, h1, h2, h3⟩ := L.ex
  have hl : acc.length = ys.length := by have := h3.length; rwa [List.length_map] at this
  have pk : putK ((acc.map (·.1)).zip ys) k y = ((acc ++ [(k, d)]).map (·.1)).zip (ys ++ [y]) := by
    unfold putK
    rw [if_neg, List.map_append, List.zip_append (by rw [List.length_map]; exact hl)]
    · rfl
    · rw [Bool.not_eq_true, List.any_eq_false]
      intro p hp
      have := List.of_mem_zip hp
      obtain ⟨q, q1, q2⟩ := List.mem_map.mp this.1
      have := hk q q1
      simp only [decide_eq_true_eq]
      rw [← q2]
      exact this
  have st : Stp (MM (fun a => M0 a ∨ a = Dl) env τ) H (upd H Dl (.dK (putK ((acc.map (·.1)).zip ys) k y))) := Stp.set (.inl (.inr rfl)) (pl_atk h1) nt_dK
  refine ⟨_, h1, by rw [List.length_zip, List.length_map]; omega, ⟨⟨ys ++ [y], by rw [← pk]; exact upd_same, by rw [List.length_append, List.length_singleton]; omega, ?_⟩,
    L.E.setM (pl_atk h1) (.inr rfl) L.nA L.n0 nt_dK, ⟨fun a o h k t => ?_, fun a h => mo_upd nt_dK a (L.st.mo a h), fun P q m h => tab_upd (pl_atk h1) P q (L.st.tb P q m h), fun b fs h => xd_upd (pl_atk h1) b fs (L.st.xd b fs h)⟩, L.mu, L.th, L.io, L.len, L.nA, L.n0, L.nD⟩⟩
  · rw [List.map_append]
    exact RepL.append (RepL.stp st (fun _ z => z) (acc.map (·.2)) ys h3) (RepL.cons (Rep.stp st (fun _ z => z) d y r) RepL.nil)
  · rw [upd_ne (ne_of_none h L.nD)]
    exact L.st.st a o h k t
end
end Mp
set_option maxHeartbeats 4000000
set_option maxHeartbeats 4000000
set_option maxHeartbeats 4000000
namespace Mp
open PySem L2
variable [TabsW] [GdW]
section
variable {X : Cx} {G : Ctx} {W : WX}
/-- what stands while the dict at p, in slot sl, grows -/
structure DAt (K : PySem.W.Frag) (H0 : Hp) (M0 A : AS) (env0 : Env) (σ0 : L2.St) (Hs : Hp) (ea : Env) (σa : L2.St) (Ha : Hp) (p : Addr) (sl : Nat) (env : Env) (σ : L2.St) (H : Hp) (ks : List Key) (ds : List D) : Prop where
  hA : ∀ a, A a → M0 a
  h0 : ¬ Lv H0 p
  hn : ¬ A p
  hs : ¬ Lv Hs p
  hm : ¬ M0 p
  E : EnvR K H0 (fun a => M0 a ∨ a = p) A env σ H
  s : Stp (WW A env0 σ0) Hs H
  u : SubS σ0 env0 Hs σ env
  s2 : Stp (MM (fun a => M0 a ∨ a = p) ea σa) Ha H
  u2 : SubS σa ea Ha σ env
  v : σ[sl]? = some (some (V.ref p))
  d : ∃ vs, H p = some (.dK (ks.zip vs)) ∧ ks.length = vs.length ∧ RepL K H (MM (fun a => M0 a ∨ a = p) env σ) ds vs
section
variable {K : PySem.W.Frag} {H0 : Hp} {M0 A : AS} {env0 : Env} {σ0 : L2.St} {Hs : Hp} {ea : Env} {σa : L2.St} {Ha : Hp} {p : Addr} {sl : Nat} {env : Env} {σ : L2.St} {H : Hp} {ks : List Key} {ds : List D} {D : Ends}
theorem DAt.le (x : Addr) (z : MM M0 env σ x) : MM (fun a => M0 a ∨ a = p) env σ x := z.elim (fun z => .inl (.inl z)) .inr
theorem DAt.noMut (a : DAt K H0 M0 A env0 σ0 Hs ea σa Ha p sl env σ H ks ds) : ¬ MutAt env σ p := fun ⟨j, es, e1, e2⟩ => by
  obtain ⟨b, zs, b1, b2, b3, b4, b5⟩ := a.E.own j es e1
  rw [e2] at b1; cases b1
  exact b4 (.inr rfl)
theorem DAt.noW (a : DAt K H0 M0 A env0 σ0 Hs ea σa Ha p sl env σ H ks ds) : ¬ WW A env σ p := fun z => z.elim a.hn a.noMut
theorem DAt.stage {α : Type} {r : R α} {f : α → Env → SR} (a : DAt K H0 M0 A env0 σ0 Hs ea σa Ha p sl env σ H ks ds) (q : SatS K H0 M0 A W (r.toS f) env0 σ0 Hs D) : Sat K H0 (fun a => M0 a ∨ a = p) A W r env σ H fun x e1 H1 => SatS K H0 M0 A W (f x e1) env0 σ0 Hs D := by
  cases r with
  | bad => exact q
  | ok x e1 => exact fun H1 s1 u1 E1 => q
  | exc C f d e1 => exact fun dd v H1 s1 u1 E1 hd rd => q σ dd v H1 (a.s.sTrans a.u s1) (SubS.trans a.s a.u u1.toS) (E1.drop a.hA a.h0 a.hn Stp.refl) hd (Rep.stp Stp.refl DAt.le d v rd)
theorem DAt.next {e1 : Env} {H1 : Hp} (a : DAt K H0 M0 A env0 σ0 Hs ea σa Ha p sl env σ H ks ds) (s1 : Stp (WW A env σ) H H1) (u1 : Sub σ env e1) (E1 : EnvR K H0 (fun a => M0 a ∨ a = p) A e1 σ H1) : DAt K H0 M0 A env0 σ0 Hs ea σa Ha p sl e1 σ H1 ks ds := by
  obtain ⟨vs, d1, d2, d3⟩ := a.d
  have mo : ∀ x, WW A env σ x → MM (fun a => M0 a ∨ a = p) ea σa x ∨ ¬ Lv Ha x := fun x z => z.elim (fun z => .inl (.inl (.inl (a.hA x z)))) fun z => (a.u2.own x z).elim (fun z => .inl (.inr z)) .inr
  refine ⟨a.hA, a.h0, a.hn, a.hs, a.hm, E1, a.s.sTrans a.u s1, SubS.trans a.s a.u u1.toS, ⟨fun x o e n t => s1.st x o (a.s2.st x o e n t) (fun z => (mo x z).elim n fun w => w ⟨o, e, t⟩) t, fun x h => s1.mo x (a.s2.mo x h), fun P q m h => s1.tb P q m (a.s2.tb P q m h), fun b fs h => s1.xd b fs (a.s2.xd b fs h)⟩, ?_, a.v, vs, s1.st p _ d1 a.noW nt_dK, d2, holdL d3 a.E.aM s1 u1⟩
  exact ⟨fun x z => a.u2.own x (u1.own x z), a.u2.len⟩
theorem DAt.keep {H1 : Hp} (a : DAt K H0 M0 A env0 σ0 Hs ea σa Ha p sl env σ H ks ds) (s1 : Stp NoA H H1) : DAt K H0 M0 A env0 σ0 Hs ea σa Ha p sl env σ H1 ks ds := a.next s1.no Sub.refl (a.E.keep s1)
theorem DAt.bind {e1 : Env} {σ1 : L2.St} (a : DAt K H0 M0 A env0 σ0 Hs ea σa Ha p sl env σ H ks ds) (E1 : EnvR K H0 (fun a => M0 a ∨ a = p) A e1 σ1 H) (u' : ∀ a, MutAt e1 σ1 a → MutAt env σ a) (l' : σ1.length = σ.length) (o' : σ1[sl]? = σ[sl]?) : DAt K H0 M0 A env0 σ0 Hs ea σa Ha p sl e1 σ1 H ks ds := by
  obtain ⟨vs, d1, d2, d3⟩ := a.d
  exact ⟨a.hA, a.h0, a.hn, a.hs, a.hm, E1, a.s, ⟨fun x z => a.u.own x (u' x z), l'.trans a.u.len⟩, a.s2, ⟨fun x z => a.u2.own x (u' x z), l'.trans a.u2.len⟩, o'.trans a.v, vs, d1, d2, RepL.stp Stp.refl (fun x z => z.elim .inl fun q => .inr (u' x q)) ds vs d3⟩
theorem DAt.take {i : IR} {f : Mp.D → Env → SR} (a : DAt K H0 M0 A env0 σ0 Hs ea σa Ha p sl env σ H ks ds) (q : SatS K H0 M0 A W ((ev G i env).take.toS f) env0 σ0 Hs D) {Q : VK}
    (k : ∀ d v e1 H1, DAt K H0 M0 A env0 σ0 Hs ea σa Ha p sl e1 σ H1 ks ds → Rep K H1 (MM (fun a => M0 a ∨ a = p) e1 σ) d v → Stp (WW A env σ) H H1 → Sub σ env e1 → SatS K H0 M0 A W (f d e1) env0 σ0 Hs D → Q v H1) : tI G W K i σ H Q := by
  have q' := a.stage q
  unfold R.take at q'
  refine ⟨H0, _, A, env, a.E, (Sat.bind q').mono fun o e1 H1 _ s1 u1 E1 h1 x hx => ?_⟩
  cases e : takeO e1 o with
  | none => rw [e] at h1; exact h1.elim
  | some y =>
    obtain ⟨d, e2⟩ := y
    rw [e] at h1
    obtain ⟨E2, rd, u2⟩ := E1.take hx e
    exact k d x e2 H1 (a.next s1 (u1.trans u2) E2) rd s1 (u1.trans u2) (h1 H1 Stp.refl u2 E2)
end
end
end Mp
set_option maxHeartbeats 4000000
set_option maxHeartbeats 2000000
namespace PySem
namespace HandSPX
open Builtin Builtin.ObjectAttr
section
variable {M : Model} {A : Around} {E : Value → Shared → Prop} {h : Heap} {g : Array GenState} {d : Drawn} {t : Nat} {os : OsState}
variable {nm q : Str} {C N : Addr} {bs bm bmB : List Value} {hdct : Bool} {sn : List Str} {sub : List Value} {ab : Bool} {col : Option Bool} {dd : Option Addr} {k0 k1 k2 k3 k5 : Option Value} {B newId initId : String}
theorem check_new_kw (F : ExcBaseFacts B newId initId bmB) (hT : ∀ X : String, bm.contains (.type X) = bmB.contains (.type X)) {kw : List (Str × Value)} {Q : Unit → Shared → Prop}
    (hC : h.get? C = some (excClassObj nm q C N bs bm hdct sn sub ab col dd k0 k1 k2 k3 k5 newId)) (hq : Q () ⟨h, g, d, t, os⟩) : wpAny M A (checkBuiltinCall newId ⟨[.ref C], kw⟩) Q E ⟨h, g, d, t, os⟩ := by
  have hcont : (Value.ref C :: bm).contains (.type B) = true := by rw [List.contains_cons, hT, F.hasB, Bool.or_true]
  have hstar := F.noStar
  simp only [checkBuiltinCall, F.newKind, F.newSplit, F.newRow]
  repeat (first | refine wpAny_loadPart_at hC ?_ | (refine wpAny_isSubtype_exc hC ?_; rw [hcont]) | refine wpAny_staticBase_exc hC ?_ | refine wpAny_madeBy_exc hC ?_ | simp only [bne_self_eq_false, Bool.false_eq_true, if_false] | wp_step)
  exact hq
end
section
variable {prog : Program} {w : World} {A : Around} {E : Value → Shared → Prop} {R : Result → Shared → Prop} {h : Heap} {g : Array GenState} {d : Drawn} {t : Nat} {os : OsState}
variable {nm q : Str} {C N : Addr} {bs bm bmB : List Value} {hdct : Bool} {sn : List Str} {sub : List Value} {ab : Bool} {col : Option Bool} {dd : Option Addr} {k0 k1 k2 k3 k5 : Option Value} {B newId initId : String}
theorem new_kw (F : ExcBaseFacts B newId initId bmB) (hT : ∀ X : String, bm.contains (.type X) = bmB.contains (.type X)) {kw : List (Str × Value)}
    (hC : h.get? C = some (excClassObj nm q C N bs bm hdct sn sub ab col dd k0 k1 k2 k3 k5 newId))
    (hq : R (.ok (.ret (.ref (h.objs.size + 1)))) ⟨(h.push { cls := .type "tuple", data := .seq #[] }).push
      { cls := .ref C, data := .fields #[.ref h.objs.size, .none, .none, .none, .bool false, .none] }, g, d, t, os⟩) :
    codeAny (model prog w) A (.builtin newId ⟨[.ref C], kw⟩) R ⟨h, g, d, t, os⟩ := by
  have hends := F.ends
  have hcB : (Value.ref C :: bm).contains (.type B) = true := by rw [List.contains_cons, hT, F.hasB, Bool.or_true]
  have hcA : (Value.ref C :: bm).contains (.type "AttributeError") = false := by rw [List.contains_cons, hT, F.noAttr]; rfl
  have hcN : (Value.ref C :: bm).contains (.type "NameError") = false := by rw [List.contains_cons, hT, F.noName]; rfl
  have hrest : ([] : List Value).length ≤ sizeLine := Nat.zero_le _
  refine codeAny_builtinAt F.entry ?_
  unfold Builtin.«BaseException.__new__»
  refine wpAt_bind ?_
  show wpAt _ _ _ (stack >>= _) _ _ _
  refine wpAt_bind (wpAt_stack fun p below => wpAt_of_wpAny ?_)
  wp_walk
  refine wpAt_of_wpAny ?_
  rw [F.owner]
  repeat (first | with_reducible refine wpAny_madeHere_exc F.canon hC ?_ | with_reducible refine wpAny_loadPart_at hC ?_ | (with_reducible refine wpAny_isSubtype_exc hC ?_; first | rw [hcB] | rw [hcA] | rw [hcN]) | wp_step)
  show R _ _
  rw [Heap.size_push]
  exact hq
theorem type_call_kw (F : ExcBaseFacts B newId initId bmB) (hT : ∀ X : String, bm.contains (.type X) = bmB.contains (.type X)) {kw : List (Str × Value)} {fI : Addr} {Q : Fin → Shared → Prop}
    (hC : h.get? C = some (excClassObj nm q C N bs bm hdct sn sub ab col dd k0 k1 k2 k3 k5 newId))
    (hi : W.Looks (model prog w) h (typeLookup (.ref C) "__init__") (some (.ref fI))) (hb : ∀ self, W.Looks (model prog w) h (bindSpecial (.ref fI) self) (.ref fI, [self]))
    (hq : codeAny (model prog w) A (.call (.ref fI) ⟨[.ref (h.objs.size + 1)], kw⟩)
      (fun r s' => match r with | .ok (.ret v) => v = .none ∧ Q (.done (.ret (.ref (h.objs.size + 1)))) s' | .ok _ => False | .error e => E e s')
      ⟨(h.push (W.kdv_tup [])).push (excO C h.objs.size), g, d, t, os⟩) :
    wpAny (model prog w) A (Builtin.«type.__call__» ⟨[.ref C], kw⟩) Q E ⟨h, g, d, t, os⟩ := by
  repeat (first | with_reducible refine wpAny_loadPart_at hC ?_ | with_reducible refine wpAny_madeBy_exc hC ?_ | wp_step)
  refine codeAny_call_builtin_code (Code.quiet_builtin _ F.quiet) (check_new_kw F hT hC ?_)
  refine new_kw F hT hC ?_
  show wpAny _ _ _ _ _ _
  have k : ∀ b o, h.get? b = some o → ((h.push (W.kdv_tup [])).push (excO C h.objs.size)).get? b = some o := fun b o e => Heap.get?_push_of_some _ (Heap.get?_push_of_some _ e)
  have hC₁ := k _ _ hC
  have hget : ((h.push (W.kdv_tup [])).push (excO C h.objs.size)).get? (h.objs.size + 1) = some (excO C h.objs.size) := by heap_get
  have hcC : (Value.ref C :: bm).contains (.ref C) = true := by simp
  have i1 := hi.keeps k
  have b1 := (hb (.ref (h.objs.size + 1))).keeps k
  unfold isInstance
  repeat (first | with_reducible refine wpAny_loadPart_at hget ?_ | (with_reducible refine wpAny_isSubtype_exc hC₁ ?_; rw [hcC]) | wp_step)
  show wpAny _ _ (typeLookup (.ref C) _) _ _ _
  refine i1.at ?_
  refine wpAny_holding (wpAny_bind (b1.at ?_))
  refine wpAny_bind (wpAny_call (codeAny_mono hq fun r s' z => ?_))
  rcases r with e | (v | _ | _ | _) <;> first | exact z | exact z.elim | skip
  obtain ⟨rfl, z⟩ := z
  first
    | exact wpAny_pure (wpAny_pure z)
    | (wp_walk; exact z)
theorem call_kw (F : ExcBaseFacts B newId initId bmB) (hT : ∀ X : String, bm.contains (.type X) = bmB.contains (.type X)) {kw : List (Str × Value)} {fI : Addr}
    (hC : h.get? C = some (excClassObj nm q C N bs bm hdct sn sub ab col dd k0 k1 k2 k3 k5 newId))
    (hi : W.Looks (model prog w) h (typeLookup (.ref C) "__init__") (some (.ref fI))) (hb : ∀ self, W.Looks (model prog w) h (bindSpecial (.ref fI) self) (.ref fI, [self]))
    (hq : codeAny (model prog w) (A.under (.builtin "type.__call__" ⟨[.ref C], kw⟩)) (.call (.ref fI) ⟨[.ref (h.objs.size + 1)], kw⟩) (W.InitBack (h.objs.size + 1) R)
      ⟨(h.push (W.kdv_tup [])).push (excO C h.objs.size), g, d, t, os⟩) :
    codeAny (model prog w) A (.call (.ref C) ⟨[], kw⟩) R ⟨h, g, d, t, os⟩ := by
  have f1 := tc_lookup
  have f2 := tc_bind (.ref C)
  have hTy : (⟨h, g, d, t, os⟩ : Shared).TypeIs (.ref C) "type" := ⟨_, hC, rfl⟩
  refine codeAny_of_tree ?_
  show wpAny _ _ (callAny (.ref C) _) _ _ _
  repeat (any_goals (first | assumption | with_reducible refine wpAny_loadPart_at hC ?_ | wp_step))
  refine ⟨rfl, ?_⟩
  refine codeAny_call_builtin_at (Code.quiet_builtin _ (by decide +kernel)) entry_typeCall (wpAny_check_type_call_sub hC (type_call_kw F hT hC hi hb ?_))
  refine codeAny_mono hq fun r s' z => ?_
  rcases r with e | (v | _ | _ | _) <;> exact z
end
end HandSPX
end PySem
set_option maxHeartbeats 4000000
namespace Mp
open PySem PySem.Spec PyProof.Rows L2
structure ErrF (K : PySem.W.Frag) (f C : Str) : Prop where
  xf : XfC K (clsAt K C)
  no : PySem.W.findIn K (.ref (clsAt K C)) f = some none
/-- v is a kept error of the class C, its field f holds x -/
def KeptE (K : PySem.W.Frag) (H : Hp) (v : V) (C f : Str) (x : V) : Prop := ∃ a dd, v = .ref a ∧ H a = some (ErO a (.ref (clsAt K C)) (some dd)) ∧ H dd = some (.xd [(f, x)])
def tEf (K : PySem.W.Frag) (cs : List Str) (f : Str) (te : TE) : TE := fun σ H Q => te σ H fun x H1 => ∃ C v, C ∈ cs ∧ KeptE K H1 x C f v ∧ Q v H1
theorem look_one {f : Str} {v : V} : List.lookup f [(f, v)] = some v := by simp [List.lookup]
theorem pe_ef {X : Cx} {e : Expr} {te : TE} {pos : Pos} {f : Str} {cs : List Str} (F : ∀ C ∈ cs, ErrF X.K f C) (he : PE X e te) (hb : attributeBase e f X.env (eval e X.env) = eval e X.env := by rfl) : PE X (.Attribute e f pos) (tEf X.K cs f te) := by
  refine ⟨fun pins s σ H Q I h => ?_⟩
  refine attr_of hb (thn (he.run pins s σ H _ I h) fun u s1 hh => ?_)
  obtain ⟨x, H1, I1, rx, C, v, hC, ⟨a, dd, ex, hO, hd⟩, q⟩ := hh
  have T := F C hC
  subst ex
  obtain rfl : u = Value.ref a := rx
  obtain ⟨⟨oe, vs, ho, hz, hf⟩, _, _⟩ := I1.hok a _ hO
  have hx : ObjOk X.prog X.w H1 s1.heap dd (.xd [(f, v)]) := I1.hok dd _ hd
  obtain ⟨mA, hns, hr⟩ := hx
  obtain ⟨od, hod, hl⟩ := lookIn_ns hns
  obtain ⟨u, hu, ru⟩ := RelO.some_of (v := v) (o := mA f) (by rw [← look_one (f := f) (v := v)]; exact hr f)
  have J : PySem.W.InstAt s1.heap a oe (clsAt X.K C) (some od) := ⟨ho, hz.1, by unfold PySem.W.notCls; rw [hf] <;> rfl, by rw [hz.2]; exact hod⟩
  exact HandSPX.exc_get I1.kIn J T.xf.ga T.xf.gg T.xf.exC (PySem.W.findObj_own T.xf.hdC T.no rfl (by rw [hl, hu])) (handed_of ru) ⟨v, H1, I1.tok _, ru, q⟩
/-- what the classes tab say of instances of theirs, asked for cv -/
structure EisF (K : PySem.W.Frag) (tab : List (Str × Bool)) (cv : Value) : Prop where
  ex : ∀ C b, tab.lookup C = some b → ExcC K (clsAt K C) ∧ PySem.W.kitOne K (.ref (clsAt K C)) cv = some b
def rEis (K : PySem.W.Frag) (tab : List (Str × Bool)) (cv : Value) : List V → Hp → VK → Prop := fun xs H Q => ∃ v c C f x b, xs = [v, c] ∧ KeptE K H v C f x ∧ (∀ u, RelV c u → u = cv) ∧ tab.lookup C = some b ∧ Q (.bl b) H
theorem call_eis {X : Cx} {tab : List (Str × Bool)} {cv : Value} (F : EisF X.K tab cv) : CallR X (.builtin "isinstance") (rEis X.K tab cv) := by
  intro pins s σ H xs us Q I r h
  obtain ⟨v, c, C, f, x, b, rfl, ⟨a, dd, rfl, hO, hd⟩, hcv, ht, q⟩ := h
  obtain ⟨T, hk⟩ := F.ex C b ht
  cases r with
  | cons rx rr =>
    cases rr with
    | cons rt rr =>
      cases rr
      cases rx
      have ec := hcv _ rt
      subst ec
      obtain ⟨⟨oe, vs, ho, hz, hf⟩, _, _⟩ := I.hok a _ hO
      have hx : ObjOk X.prog X.w H s.heap dd (.xd [(f, x)]) := I.hok dd _ hd
      obtain ⟨mA, hns, hr⟩ := hx
      obtain ⟨od, hod, hl⟩ := lookIn_ns hns
      have J : PySem.W.InstAt s.heap a oe (clsAt X.K C) (some od) := ⟨ho, hz.1, by unfold PySem.W.notCls; rw [hf] <;> rfl, by rw [hz.2]; exact hod⟩
      have hcl : (PySem.W.clsIn X.K (clsAt X.K C)).isSome = true := by
        obtain ⟨cd, hc, _⟩ := PySem.W.any_some T.hd
        rw [hc]; rfl
      exact PySem.W.kia_one (PySem.W.kitx_exc hcl T.hg T.hk T.hs T.ha T.hn T.ht T.hm) I.kIn J hk (fun z => nomatch z) fun tk => ⟨.bl b, H, I.kept (t' := tk) fun _ _ z => z, rfl, q⟩
theorem track {X : Cx} {pins : List (Addr × Obj)} {σ : L2.St} {H : Hp} {s : Shared} (I : Inv X pins σ H s) {a : Addr} {o : HO} (hn : H a = none) (new : ObjOk X.prog X.w (upd H a o) s.heap a o) (h0 : ∀ b u, X.s_0.heap.get? b = some u → b ∉ X.ex → b ≠ a)
    (hL : a ≠ X.env.locals) (hC : ∀ x c, X.env.cells.lookup x = some c → c ≠ a) (hp : ∀ p ∈ X.pn ++ pins, p.1 ≠ a) : Inv X pins σ (upd H a o) s :=
  ⟨I.ok, I.os, I.bare, ⟨I.base.keep, I.base.slot, fun b u e n hx => by rw [upd_ne (h0 b u e hx)]; exact I.base.free b u e n hx, I.base.there, fun b xs e => by rw [upd_ne (ne_of_none (I.base.tups b xs e) hn)]; exact I.base.tups b xs e,
      fun b u xs e => by rw [upd_ne (ne_of_none (I.base.frzs b u xs e) hn)]; exact I.base.frzs b u xs e, fun b ps e => by obtain ⟨m, q⟩ := I.base.tbls b ps e; exact ⟨m, by rw [upd_ne (ne_of_none q hn)]; exact q⟩⟩,
    I.loc, I.cell, by rw [upd_ne (Ne.symm hL)]; exact I.free, fun x c e => by rw [upd_ne (hC x c e)]; exact I.freeC x c e, fun p h => by
      obtain ⟨e, n, ne, nf, d⟩ := I.pin p h
      exact ⟨e, by rw [upd_ne (hp p h)]; exact n, ne, nf, d⟩, I.hok.laidN (fun _ _ z => z) hn new, I.len⟩
/-- the wish of a try's body whose clauses (of the classes ks, under the name i) keep the error in slot j -/
def wKp (K : PySem.W.Frag) (i j : Nat) (D : Ends) : List Value → WX
  | [] => fun _ _ _ _ => False
  | k :: r => fun cls d σ H => ∃ b, PySem.W.exmOne K cls k = some b ∧ (b = true → ∀ ea, H ea = none → D.nx (((σ.set i (some (.ref ea))).set j (some (.ref ea))).set i none) (upd H ea (ErO ea cls d))) ∧ (b = false → wKp K i j D r cls d σ H)
inductive KpOk (X : Cx) (n : Str) (i j : Nat) : List ExceptHandler → List Value → Prop
  | none_ : KpOk X n i j [] []
  | more {x : Str} {k : Value} {s0 : Stmt} {ss : List Stmt} {p1 p2 : Pos} {hs : List ExceptHandler} {l : List Value} (nm : Names X x k)
      (su : ∀ (ea : Addr) (eo : Obj) (pn : List (Addr × Obj)), PSs (X.suite ea ((ea, eo) :: pn)) (s0 :: ss) (fun D σ H => ∃ v, σ[i]? = some (some v) ∧ D.nx (σ.set j (some v)) H)) (rest : KpOk X n i j hs l) :
      KpOk X n i j (.ExceptHandler (some (.Name x p1)) (some n) (s0 :: ss) p2 :: hs) (k :: l)
section
variable {X : Cx} {n : Str} {i j : Nat} {body : List Stmt} {e0 : ExceptHandler} {es : List ExceptHandler} {l : List Value} {pos : Pos} {tb : WX → TS}
theorem ps_try_keep (hi : i < X.N.length) (st : X.stack = X.env :: X.outer) (fr : X.env.frame = some X.env.locals) (nd : X.N.Nodup) (ni : X.N[i]? = some n) (kl : X.env.kindOf n = some .local)
    (bd : ∀ (W : WX) (pn : List (Addr × Obj)) (xe : Value → Shared → Prop), Takes (X.tr pn xe) W → PassesOwn (model X.prog X.w) X.A X.env xe → PSs (X.tr pn xe) body (tb W))
    (ok : KpOk X n i j (e0 :: es) l) : PS X (.Try body (e0 :: es) [] [] pos) (fun D σ H => tb (wKp X.K i j D l) D σ H) := by
  refine ⟨fun pins s σ H D I h => ?_⟩
  have iok := I.ok
  have frs0 : X.A.frames = some (X.env :: X.outer) := by rw [iok.frames, st]
  have lcl : Loc X.env.scope n := .inl kl
  refine wpAny_Try_except ?_
  refine wpAny_mono ((bd (wKp X.K i j D l) (X.pn ++ pins) (fun ev t1 => wpAny (model X.prog X.w) X.A (noteFrame ev X.env) (fun _ t2 => wpAny (model X.prog X.w) X.A (setFlight ev none) (fun _ t3 => wpAny (model X.prog X.w) X.A (handleBy ev X.env (e0 :: es)) (SP X pins D) X.xe t3) X.xe t2) X.xe t1)
    (fun u s' xx => ?_) PassesOwn.looking).run [] s σ H D (I.toTry _) h) (fun fl s1 hsp => ?_) (fun ev s1 he => he)
  · obtain ⟨ea, B, sI, pins', σ', H', cls, d, rfl, J', nb, up, sky, na, os, ag, w⟩ := xx
    have J : Inv X pins σ' H' sI := J'.ofTry iok
    have sky2 : Sky B (X.env :: X.outer) ea (Zc cls d) X.env.locals s'.heap := by rw [← st]; exact sky
    show wpAny (model X.prog X.w) X.A (noteFrame (.ref ea) X.env) _ _ _
    refine Sky.land Zc.steady frs0 fr sky2 fun h3 fl3 up3 => ?_
    have J3 : Inv X pins σ' H' { s' with heap := h3 } := J.landed nb fl3.1 (up.trans up3) os ag
    obtain ⟨eo3, vs3, he3, hz3, hd3⟩ := fl3.there
    have apart : ea ∉ frs (X.env :: X.outer) := fun hm => by
      obtain ⟨_, o2, q2, nf⟩ := fl3.2.2.1.mem hm
      rw [he3] at q2; cases q2
      exact nf _ hd3
    have nL : ea ≠ X.env.locals := fun z => apart (List.mem_filterMap.mpr ⟨X.env, List.mem_cons_self, by rw [fr, z]⟩)
    have nF : ea ∉ X.fs := fun hm => by
      obtain ⟨en, hen, q⟩ := List.mem_filterMap.mp hm
      exact apart (List.mem_filterMap.mpr ⟨en, List.mem_cons_of_mem _ hen, q⟩)
    -- it is new
    have nI : sI.heap.get? ea = none := by
      have nB : B.get? ea = none := fl3.2.1
      cases q : sI.heap.get? ea with
      | none => rfl
      | some o =>
        have z := nb ea o q (by rw [st]; exact apart)
        rw [nB] at z; cases z
    have n0 : ∀ b u, X.s_0.heap.get? b = some u → b ∉ X.ex → b ≠ ea := fun b u e hx z => by
      obtain ⟨o', q⟩ := J.base.there b u e hx
      rw [z, nI] at q; cases q
    have nC : ∀ x c, X.env.cells.lookup x = some c → c ≠ ea := fun x c e z => by
      obtain ⟨v, o, ho, _⟩ := J.cell x c e
      rw [z, nI] at ho; cases ho
    have nP : ∀ p ∈ X.pn ++ pins, p.1 ≠ ea := fun p hp z => by
      obtain ⟨e, _⟩ := J.pin p hp
      rw [z, nI] at e; cases e
    have S3 := J3.suite he3 hd3 na nL nF
    have LT : PySem.W.Looks (model X.prog X.w) h3 (typeOf (.ref ea)) cls := fun A Q E t k q => wpAny_typeOf_ref (k _ _ he3) (by rw [hz3.1]; exact q)
    have go : ∀ {hs2 : List ExceptHandler} {l2 : List Value}, KpOk X n i j hs2 l2 → wKp X.K i j D l2 cls d σ' H' → wpAny (model X.prog X.w) X.A (handleBy (.ref ea) X.env hs2) (SP X pins D) X.xe { s' with heap := h3 } := by
      intro hs2 l2 hk
      induction hk with
      | none_ => intro w; exact w.elim
      | @more x k s0 ss p1 p2 hs l nm su rest ih =>
        intro w
        obtain ⟨b, hb1, yes, no⟩ := w
        refine wpAny_handleBy_cons (codeAny_handlers_test ?_) (by intro q; cases q)
        have LM := PySem.W.exm_one (M := model X.prog X.w) (J3.kIn) LT hb1
        have tst : ∀ {Q : Value → Shared → Prop} {E : Value → Shared → Prop}, Q k { s' with heap := h3 } → wpAny (model X.prog X.w) (X.A.mark (some (.ref ea))) (eval (.Name x p1) X.env) Q E { s' with heap := h3 } := fun {Q E} q => by
          obtain ⟨hg, hdbg, hm | ⟨hm, hv, hnn⟩⟩ := nm
          · exact ld_glob (X := X.suite ea ((ea, eo3) :: (X.pn ++ pins))) S3 hg hm q hdbg
          · exact ld_blt (X := X.suite ea ((ea, eo3) :: (X.pn ++ pins))) S3 hg hm hv q hnn hdbg
        refine tst (LM.here ?_)
        cases b with
        | false =>
          show wpAny _ X.A (handleBy (.ref ea) X.env hs) _ _ _
          exact ih (no rfl)
        | true =>
          refine codeAny_handlers_suite_as ?_
          refine HandSPX.lands_againZ fl3 fun h4 fl4 up4 => ?_
          have J4 : Inv X pins σ' H' { s' with heap := h4 } := J.landed nb fl4.1 ((up.trans up3).trans up4) os ag
          obtain ⟨eo4, vs4, he4, hz4, hd4⟩ := fl4.there
          have S4 := J4.suite he4 hd4 na nL nF
          have hlen : i < σ'.length := by rw [J.len]; exact hi
          let D2 : Ends := { nx := fun σ6 H6 => σ6 = (σ'.set i (some (.ref ea))).set j (some (.ref ea)) ∧ H6 = H', rt := fun _ _ => False, bk := fun _ _ => False, ct := fun _ _ => False }
          refine store_ok (X := X.suite ea ((ea, eo4) :: (X.pn ++ pins))) (v := .ref ea) S4 nd ni lcl rfl (fun s5 S5 => ?_) (.inr kl)
          refine wpAny_mono ((su ea eo4 (X.pn ++ pins)).run [] s5 _ H' D2 S5 ⟨.ref ea, List.getElem?_set_self hlen, rfl, rfl⟩) (fun fl s6 hsp => ?_) (fun _ _ z => False.elim z)
          have fin : ∀ {σ6 : L2.St} {Q : Shared → Prop}, Inv (X.suite ea ((ea, eo4) :: (X.pn ++ pins))) [] σ6 H' s6 → (∀ s7, Inv X pins (σ6.set i none) (upd H' ea (ErO ea cls d)) s7 → Q s7) →
              wpAny (model X.prog X.w) X.A (do bindName X.env n .none; unbindBehindTheSuite X.env n p2) (fun _ s7 => Q s7) X.xe s6 := fun {σ6 Q} S6 hq => by
            obtain ⟨e6, n6, _⟩ := S6.pin (ea, eo4) (List.mem_append_left _ List.mem_cons_self)
            have J6 : Inv X pins σ6 H' s6 := S6.unsuite iok
            exact gone_ok (track J6 n6 (erO_ok e6 hz4 hd4) n0 nL nC nP) nd ni kl hq
          cases fl with
          | next =>
            obtain ⟨σ6, H6, S6, rfl, rfl⟩ := hsp
            exact fin S6 fun s7 J7 => ⟨_, _, J7, yes rfl ea na⟩
          | brk => obtain ⟨σ6, H6, S6, q6⟩ := hsp; exact q6.elim
          | cont => obtain ⟨σ6, H6, S6, q6⟩ := hsp; exact q6.elim
          | ret u => obtain ⟨v6, σ6, H6, S6, r6, q6⟩ := hsp; exact q6.elim
    exact go ok w
  · cases fl with
    | next => obtain ⟨σ', H', J', q⟩ := hsp; exact wpAny_execs_nil ⟨σ', H', J'.ofTry iok, q⟩
    | brk => obtain ⟨σ', H', J', q⟩ := hsp; exact ⟨σ', H', J'.ofTry iok, q⟩
    | cont => obtain ⟨σ', H', J', q⟩ := hsp; exact ⟨σ', H', J'.ofTry iok, q⟩
    | ret u => obtain ⟨v, σ', H', J', r, q⟩ := hsp; exact ⟨v, σ', H', J'.ofTry iok, r, q⟩
end
end Mp
set_option maxHeartbeats 4000000
namespace Mp
open PySem PySem.Spec PyProof.Rows L2
variable [TabsW] [GdW]
section
variable {X : Cx} {G : Ctx} {W : WX}
theorem e_efld {e : Expr} {a : IR} {f : Str} {cs : List Str} {pos : Pos} (F : ∀ C ∈ cs, ErrF X.K f C) (he : PE X e (tI G W X.K a)) (hb : attributeBase e f X.env (eval e X.env) = eval e X.env := by rfl) : PE X (.Attribute e f pos) (tI G W X.K (.efld a f cs)) :=
  PE.by_ (pe_ef F he hb) fun σ H Q q => by
    obtain ⟨H0, M0, A, env, E, q⟩ := q
    rw [ev] at q
    refine take_read E q fun d v e1 H1 E1 rd s1 u1 h1 => ?_
    cases d with
    | err C g x =>
      dsimp only at h1
      by_cases hc : g = f ∧ cs.contains C = true
      · rw [if_pos hc] at h1
        obtain ⟨rfl, hC⟩ := hc
        unfold Rep at rd
        obtain ⟨b, dd, y, rfl, nm, q1, q2, r⟩ := rd
        exact ⟨C, y, by simpa using hC, ⟨b, dd, rfl, q1, q2⟩, h1 H1 Stp.refl Sub.refl E1 y r⟩
      · rw [if_neg hc] at h1; exact h1.elim
    | _ => exact h1.elim
theorem e_eis {a c : Expr} {i : IR} {tab : List (Str × Bool)} {x : Str} {cv : V} {u : Value} {p pos : Pos} (F : EisF X.K tab u) (hv : ClsV cv u) (ha : PE X a (tI G W X.K i)) (hcl : PE X c (tC cv)) (hg : Gl X "isinstance") (hm : X.mg "isinstance" = none) (s1 : starB a = false) (s2 : starB c = false) :
    PE X (.Call (.Name "isinstance" p) [a, c] [] pos) (tI G W X.K (.eis i tab x)) :=
  PE.by_ (pe_callB (call_eis F) hg hm (by decide +kernel) (pa_cons ha (pa_cons hcl pa_nil (star_cons s2)) (star_cons s1)) (by decide) (by decide) (star_cons s1) (star_none (by rw [List.any_cons, s2]; rfl))) fun σ H Q q => by
    obtain ⟨H0, M0, A, env, E, q⟩ := q
    rw [ev] at q
    refine take_read E q fun d v e1 H1 E1 rd s1 u1 h1 => ?_
    cases d with
    | err C g y =>
      dsimp only at h1
      cases ht : tab.lookup C with
      | none => rw [ht] at h1; exact h1.elim
      | some b =>
        rw [ht] at h1
        unfold Rep at rd
        obtain ⟨b0, dd, y', rfl, nm, q1, q2, r⟩ := rd
        exact ⟨_, cv, C, g, y', b, rfl, ⟨b0, dd, rfl, q1, q2⟩, (fun w r => hv.eq r), ht, h1 H1 Stp.refl Sub.refl E1 (.bl b) (show OpdR X.K M0 e1 σ H1 (.val (.bl b)) (.bl b) from (rep_bl b : Rep X.K H1 (MM M0 e1 σ) (.bl b) (.bl b)))⟩
    | _ => exact h1.elim
/-- a clause fits -/
def hits (K : PySem.W.Frag) (cls : Value) : List Value → Prop
  | [] => False
  | k :: r => PySem.W.exmOne K cls k = some true ∨ (PySem.W.exmOne K cls k = some false ∧ hits K cls r)
theorem keeps_hit {K : PySem.W.Frag} {n j : Nat} {D : Ends} {cls : Value} {d : Option Addr} {σ : L2.St} {H : Hp} (h2 : ∀ ea, H ea = none → D.nx (((σ.set n (some (.ref ea))).set j (some (.ref ea))).set n none) (upd H ea (ErO ea cls d))) :
    ∀ {ks : List Value}, hits K cls ks → wKp K n j D ks cls d σ H
  | [], h => h.elim
  | k :: r, h => by
    rcases h with h | ⟨h, hr⟩
    · exact ⟨true, h, fun _ => h2, fun z => by cases z⟩
    · exact ⟨false, h, (fun z => by cases z), fun _ => keeps_hit h2 hr⟩
theorem kp_asg {n j : Nat} {nn jn : Str} {ea : Addr} {eo : Obj} {pn : List (Addr × Obj)} {p1 p2 p3 : Pos} (he : PE (X.suite ea ((ea, eo) :: pn)) (.Name nn p2) (tVar n)) (hg : PG (X.suite ea ((ea, eo) :: pn)) (.Name jn p1) (gName j))
    (hs : swapsWithSole [.Name jn p1] (.Name nn p2) p3.line X.env = pure false) (hw : swappedStores [.Name jn p1] (.Name nn p2) X.env = pure none) :
    PSs (X.suite ea ((ea, eo) :: pn)) [.Assign [.Name jn p1] (.Name nn p2) p3] (fun D σ H => ∃ v, σ[n]? = some (some v) ∧ D.nx (σ.set j (some v)) H) :=
  pss_one (PS.by_ (ps_asg he hg hs hw) fun D σ H q => q)
theorem st_tryk {call : Expr} {i : IR} {n j : Nat} {nm : Str} {tab : List Str} {e0 : ExceptHandler} {es : List ExceptHandler} {ks : List Value} {p1 pos : Pos} (hN : n < X.N.length) (st : X.stack = X.env :: X.outer) (fr : X.env.frame = some X.env.locals) (nd : X.N.Nodup) (ni : X.N[n]? = some nm)
    (kl : X.env.kindOf nm = some .local) (hs : swapsWith call none p1.line X.env = pure false) (bd : ∀ (W : WX) (pn : List (Addr × Obj)) (xe : Value → Shared → Prop), Takes (X.tr pn xe) W → PE (X.tr pn xe) call (tI G W X.K i)) (ok : KpOk X nm n j (e0 :: es) ks)
    (T : ∀ C ∈ tab, hits X.K (.ref (clsAt X.K C)) ks) : PS X (.Try [.Expr call p1] (e0 :: es) [] [] pos) (tS G W X.K (.tryk j n i tab)) :=
  PS.by_ (ps_try_keep hN st fr nd ni kl (tb := fun W D σ H => tS G W X.K (.expr i) D σ H) (fun W pn xe tk _ => pss_one (st_expr (X := X.tr pn xe) (bd W pn xe tk) hs)) ok) fun D σ H q => by
    obtain ⟨H0, M0, A, env, E, q⟩ := q
    refine ⟨H0, M0, A, env, E, ?_⟩
    rw [evS] at q
    show SatS X.K H0 M0 A (wKp X.K n j D ks) (evS G (.expr i) env) env σ H D
    rw [evS]
    cases h : ev G i env with
    | bad => rw [h] at q; exact q.elim
    | ok o e1 => rw [h] at q; exact q
    | exc C f d e1 =>
      rw [h] at q
      dsimp only at q
      by_cases hc : tab.contains C = true ∧ freeB e1 j = true ∧ freeB e1 n = true ∧ j ≠ n
      · rw [if_pos hc] at q
        intro σ' dd v H' s u E' hd rd
        obtain ⟨c1, c2, c3, c4⟩ := hc
        refine keeps_hit (fun ea hn => ?_) (T C (by simpa using c1))
        have E2 : EnvR X.K H0 M0 A e1 σ' (upd H' ea (ErO ea (.ref (clsAt X.K C)) (some dd))) := E'.new hn
        obtain ⟨E3, u3⟩ := E2.wipe [n]
        have mm : ∀ a, MM M0 (wipeE e1 [n]) (L2.wipe σ' [n]) a → MM M0 e1 σ' a := fun a z => z.elim .inl fun w => .inr (u3 a w)
        have r : Rep X.K (upd H' ea (ErO ea (.ref (clsAt X.K C)) (some dd))) (MM M0 (wipeE e1 [n]) (L2.wipe σ' [n])) (.err C f d) (.ref ea) := by
          unfold Rep
          refine ⟨ea, dd, v, rfl, fun z => (E'.fresh hn).1 (mm _ z), upd_same, ?_, Rep.stp (Stp.new hn) mm d v rd⟩
          rw [upd_ne (ne_of_none hd hn)]; exact hd
        have hj : j < (wipeE e1 [n]).length := by rw [wipeE_len]; exact free_lt c2
        obtain ⟨E4, u4⟩ := E3.setDat hj r
        have el : ((σ'.set n (some (V.ref ea))).set j (some (V.ref ea))).set n none = (L2.wipe σ' [n]).set j (some (V.ref ea)) := by
          show _ = (σ'.set n none).set j _
          rw [List.set_comm _ _ c4, List.set_set]
        rw [el]
        exact q _ _ (s.trans (Stp.new hn)) ⟨fun a z => u.own a (u3 a (u4 a z)), by rw [List.length_set, wipe_length]; exact u.len⟩ E4
      · rw [if_neg hc] at q; exact q.elim
end
end Mp
set_option maxHeartbeats 4000000
set_option maxHeartbeats 2000000
namespace PySem
namespace HandSPX
open Builtin Builtin.ObjectAttr
abbrev oeTail : List Value := [.type "OverflowError", .type "ArithmeticError", .type "Exception", .type "BaseException", .type "object"]
abbrev reTail : List Value := [.type "RuntimeError", .type "Exception", .type "BaseException", .type "object"]
/-- own classes, then what a built-in class is -/
def refsT (t : List Value) : List Value → Bool
  | .ref _ :: r => refsT t r
  | l => l == t
theorem refsT_cases {t : List Value} : ∀ l : List Value, refsT t l = true → (∃ c r, l = .ref c :: r ∧ refsT t r = true) ∨ l = t
  | [], e => .inr (beq_iff_eq.mp e)
  | .ref c :: r, e => .inl ⟨c, r, rfl, e⟩
  | .none :: _, e => .inr (beq_iff_eq.mp e)
  | .ellipsis :: _, e => .inr (beq_iff_eq.mp e)
  | .notImplemented :: _, e => .inr (beq_iff_eq.mp e)
  | .bool _ :: _, e => .inr (beq_iff_eq.mp e)
  | .int _ _ :: _, e => .inr (beq_iff_eq.mp e)
  | .float _ _ :: _, e => .inr (beq_iff_eq.mp e)
  | .str _ _ :: _, e => .inr (beq_iff_eq.mp e)
  | .bytes _ _ :: _, e => .inr (beq_iff_eq.mp e)
  | .type _ :: _, e => .inr (beq_iff_eq.mp e)
  | .builtin _ :: _, e => .inr (beq_iff_eq.mp e)
/-- such an end -/
structure TailOk (t : List Value) : Prop where
  pass : ∀ self : Value, refuseLoop self "__setattr__" t = pure ()
  obj : t.contains (.type "object") = true
  ne : t.isEmpty = false
theorem tail_oe : TailOk oeTail := ⟨F.store_OverflowError.passes, by decide +kernel, rfl⟩
theorem tail_re : TailOk reTail := ⟨F.store_RuntimeError.passes, by decide +kernel, rfl⟩
theorem refsT_pass {t : List Value} (T : TailOk t) (self : Value) : ∀ l : List Value, refsT t l = true → refuseLoop self "__setattr__" l = pure () := by
  intro l
  induction l with
  | nil =>
    intro e
    have e : t = [] := (beq_iff_eq.mp e).symm
    have := T.ne
    rw [e] at this; cases this
  | cons a r ih =>
    intro e
    rcases refsT_cases (a :: r) e with ⟨c, r', q, h⟩ | q
    · obtain ⟨rfl, rfl⟩ := List.cons.inj q
      rw [refuseLoop_ref]; exact ih h
    · rw [q]; exact T.pass self
theorem refsT_contains {t : List Value} (X : String) : ∀ l : List Value, refsT t l = true → l.contains (.type X) = t.contains (.type X) := by
  intro l
  induction l with
  | nil => intro e; rw [(beq_iff_eq.mp e).symm]
  | cons a r ih =>
    intro e
    rcases refsT_cases (a :: r) e with ⟨c, r', q, h⟩ | q
    · obtain ⟨rfl, rfl⟩ := List.cons.inj q
      rw [List.contains_cons, ih h]; rfl
    · rw [q]
theorem refsT_ne {t : List Value} (T : TailOk t) {l : List Value} (e : refsT t l = true) : l.isEmpty = false := by
  cases l with
  | nil =>
    have e : t = [] := (beq_iff_eq.mp e).symm
    have := T.ne
    rw [e] at this; cases this
  | cons _ _ => rfl
section
variable {prog : Program} {w : World} {A : Around} {E : Value → Shared → Prop} {R : Result → Shared → Prop} {hp : Heap} {g : Array GenState} {d : Drawn} {t : Nat} {os : OsState}
theorem exc_osaT {tl : List Value} (TT : TailOk tl) {K : W.Frag} {name : Str} {tk : Tok} {v : Value} {x C : Addr} {fv : Array Value} {cd : ClassData}
    (X : K.In hp) (hx : hp.get? x = some { cls := .ref C, data := .fields fv }) (hcd : W.clsIn K C = some cd) (hm : refsT tl cd.mro = true) (hh : cd.hasDict = true) (ha : W.findIn K (.ref C) name = some none)
    (hq : ∀ h' tk' dx, (∀ b o, b ≠ x → hp.get? b = some o → h'.get? b = some o) → hp.objs.size ≤ dx → dx ≠ x → h'.get? x = some { cls := .ref C, dict := some dx, data := .fields fv } →
      h'.Ns1 dx (fun y => if y = name then some v else none) → R (.ok (.ret .none)) ⟨h', g, d, tk', os⟩) :
    codeAny (model prog w) A (.call (.builtin "object.__setattr__") ⟨[.ref x, .str name tk, v], []⟩) R ⟨hp, g, d, t, os⟩ := by
  have I : W.InstAt hp x { cls := .ref C, data := .fields fv } C none := ⟨hx, rfl, rfl, trivial⟩
  have SF := F.store_object
  have ne := refsT_ne TT hm
  have hob : cd.mro.contains (.type "object") = true := (refsT_contains "object" _ hm).trans TT.obj
  have hxs : x ≠ hp.objs.size := Nat.ne_of_lt (Heap.lt_size hx)
  have sub : W.Looks (model prog w) hp (isInstance (.ref x) (.type "object")) true := I.type.andThen (W.looks_mroIn X (by unfold W.mroIn; rw [hcd, Option.bind_some, if_neg (by rw [ne]; decide), hob]))
  refine codeAny_call_builtin SF.slot.plain SF.entry (@W.check_slot (model prog w) _ _ ⟨hp, g, d, t, os⟩ "object.__setattr__" "object" "__setattr__" (.ref x) [.str name tk, v] [] _ SF.kind SF.split sub (SF.args (.ref x) (.str name tk) v) ?_)
  have hmr : W.Looks (model prog w) hp (mroOf (.ref C)) cd.mro := (W.looks_clsIn X hcd).andThen .now
  have L3 : W.Looks (model prog w) hp (storeTaker? none) none := .now
  have hcls : W.Looks (model prog w) hp (classData C) cd := W.looks_clsIn X hcd
  rw [W.osa_eq, refuse_eq]
  refine wpAny_bind (wpAny_bind (I.type.at (wpAny_bind (hmr.at ?_))))
  rw [refsT_pass TT _ _ hm]
  refine wpAny_pure (wpAny_bind (I.type.at (wpAny_bind ((W.looks_findIn X ha).at (wpAny_bind (L3.at ?_))))))
  show wpAny _ _ (storeInOwnDict (.ref x) (.ref C) (.str name tk) name v false) _ _ _
  obtain ⟨nm, bs, mro, ns, qn, hd, sn, sb, ab, col, del⟩ := cd
  dsimp only at hh
  subst hh
  unfold storeInOwnDict ownDictForStores
  repeat (first | with_reducible refine store_in_new ?_ ?_ | with_reducible refine wpAny_loadPart_at hx ?_ | with_reducible refine hcls.at ?_ | wp_step)
  · exact ⟨_, #[], _, (Heap.get?_update_ne _ _ _ _ hxs.symm).trans (Heap.get?_push_at rfl rfl), rfl, fun e he => absurd he (by simp), fun _ => rfl⟩
  · intro h' tk' hn' hs
    have hx₁ : (hp.push { cls := .type "dict", data := .dict #[] }).get? x = some { cls := .ref C, data := .fields fv } := Heap.get?_push_of_some _ hx
    refine hq h' tk' hp.objs.size (fun b o hb ho => ?_) (Nat.le_refl _) hxs.symm ?_ hn'
    · exact (hs.2 b (Nat.ne_of_lt (Heap.lt_size ho))).trans ((Heap.get?_update_ne _ _ _ _ hb).trans (Heap.get?_push_of_some _ ho))
    · exact (hs.2 x hxs).trans (Heap.get?_update_self _ hx₁ rfl)
end
end HandSPX
end PySem
namespace L2
open PySem PySem.Spec PyProof.Rows
/-- one keyword -/
theorem pk_one {X : Cx} {e : Expr} {te : TE} {nm : Option Str} {kp : Pos} (he : PE X e te) : PK X [⟨nm, e, kp⟩] (tCons te tNil) := pk_cons he pk_nil
end L2
set_option maxHeartbeats 2000000
namespace PySem
namespace ErrBadPart
open PySem.W PySem.Calls PyProof.Rows PySem.HandSPX
def iA (p1 p2 : Pos) : Arguments := { posonlyargs := [], args := [{ arg := "self", annotation := none, pos := p1 }, { arg := "part", annotation := none, pos := p2 }], vararg := none, kwonlyargs := [], kw_defaults := [], kwarg := none, defaults := [] }
def iB (q1 q2 q3 q4 : Pos) : List Stmt := [.Assign [.Attribute (.Name "self" q1) "part" q2] (.Name "part" q3) q4]
def iS : Scope := { kind := .function, names := [(PySem.Str.ofString "self", .local), (PySem.Str.ofString "part", .local)], isGenerator := false, isCoroutine := false, more := [] }
/-- what the written part says of Low, at C, and of its __init__, at fI -/
structure LowTxt (K : Frag) (mg : Str → Option Value) (C fI : Addr) : Prop where
  gC : mg "BadPart" = some (.ref C)
  cls : ∃ nm q N bs bm sn sub ab col dd k0 k1 k2 k3 k5, K.lookup C = some (excClassObj nm q C N bs bm true sn sub ab col dd k0 k1 k2 k3 k5 "ValueError.__new__") ∧ refsVE bm = true
  sa : findIn K (.ref C) "__setattr__" = some (some (.builtin "object.__setattr__"))
  ga : findIn K (.ref C) "__getattribute__" = some (some (.builtin "BaseException.__getattribute__"))
  gg : findIn K (.ref C) "__getattr__" = some none
  noN : findIn K (.ref C) "part" = some none
  iC : findIn K (.ref C) "__init__" = some (some (.ref fI))
  tC : typeIn K (.ref fI) = some (.type "function")
  kC : keepIn K (.ref C) = true
  exC : subIn K (.ref C) (.type "BaseException") = some true
  tyC : typeIn K (.ref C) = some (.type "type")
  hdC : hasDictIn K C = true
  te : exmOne K (.ref C) (.ref C) = some true
  fn : ∃ (oc : Value) (od : Option Addr) (doc pm : Value) (an : Option Addr) (cdv ct : Value) (osl : Array (Option Value)) (p1 p2 q1 q2 q3 q4 : Pos),
    K.lookup fI = some ⟨oc, od, .func (fnOf "__init__" "BadPart.__init__" (iA p1 p2) (iB q1 q2 q3 q4) iS .none .none doc pm an cdv ct), osl⟩ ∧ codeIn K cdv "BadPart.__init__" = true
theorem one_size (v : Value) : [v].length ≤ sizeLine := by
  rw [sizeLine_eq]
  exact (by decide : 1 ≤ 16777216)
theorem ldC {M : Model} {s : Shared} {name : Str} {scope : Scope} {L a : Addr} {cd : Value} {m : Str → Option Value} {x : Str} {pos : Pos} {v : Value} {Q : Value → Shared → Prop} {A : Around} {E : Value → Shared → Prop} (hn : s.heap.Ns L m) (hv : m x = some v) (h : Q v s)
    (hk : scope.kind = .function := by rfl) (hl : (envOfC name scope L a cd).kindOf x = some .local := by rfl) (hd : (x == ("__debug__" : Str)) = false := by decide) :
    wpAny M A (eval (.Name x pos) (envOfC name scope L a cd)) Q E s := wpAny_Name (wpAny_loadName_local hk hl hn hv h) hd
/-- what __init__ leaves of a fresh exception at x -/
structure InitEnd (h h' : Heap) (x C dx t1 : Addr) (v : Value) : Prop where
  keep : ∀ b o, b ≠ x → h.get? b = some o → h'.get? b = some o
  obj : h'.get? x = some { cls := .ref C, dict := some dx, data := .fields #[.ref t1, .none, .none, .none, .bool false, .none] }
  dbig : h.objs.size ≤ dx
  dne : dx ≠ x
  ns : h'.Ns1 dx (fun y => if y = "part" then some v else none)
/-- a made Low -/
structure OwnMade (h h' : Heap) (e C d : Addr) (v : Value) : Prop where
  keep : ∀ b o, h.get? b = some o → h'.get? b = some o
  new : h.objs.size ≤ e
  obj : ∃ oe vs, h'.get? e = some oe ∧ oe.cls = .ref C ∧ oe.dict = some d ∧ oe.data = .fields vs ∧ vs[1]? = some .none
  dbig : h.objs.size ≤ d
  dne : d ≠ e
  ns : h'.Ns1 d (fun y => if y = "part" then some v else none)
section
variable {prog : Program} {w : World} {A : Around} {E : Value → Shared → Prop} {R : Result → Shared → Prop} {s : Shared} {K : Frag} {mg : Str → Option Value} {C fI : Addr}
theorem low_init (T : LowTxt K mg C fI) {x t0 : Addr} {v : Value} (X : K.In s.heap) (hlim : s.heap.NoLimit) (hx : s.heap.get? x = some (excO C t0)) (hnx : K.lookup x = none) (hroom : A.depth < recursionLimit)
    (hq : ∀ h' tk dx, InitEnd s.heap h' x C dx t0 v → R (.ok (.ret .none)) { s with heap := h', toks := tk }) :
    codeAny (model prog w) A (.call (.ref fI) ⟨[.ref x, v], []⟩) R s := by
  obtain ⟨oc, od, doc, pm, an, cdv, ct, osl, p1, p2, q1, q2, q3, q4, ho, hcd⟩ := T.fn
  obtain ⟨nm, q, N, bs, bm, sn, sub, ab, col, dd, k0, k1, k2, k3, k5, hC, hbm⟩ := T.cls
  have hcl : clsIn K C = some { name := nm, bases := bs, mro := .ref C :: bm, ns := N, qualname := q, hasDict := true, slotNames := sn, subclasses := sub, abstract := ab, collection := col, hasDel := false } := by unfold clsIn; rw [hC] <;> rfl
  refine Att.call_fn (binds := [("self", .ref x), ("part", v)]) X hlim ho hcd hroom (BindsTo.of_eq (by first | rfl | with_unfolding_all rfl)) (by first | rfl | decide | with_unfolding_all rfl) (fun s₁ IC => ?_) rfl rfl rfl
  obtain ⟨h₁, tk₁, rfl⟩ := IC.toInCall.same
  have k : ∀ b o, s.heap.get? b = some o → h₁.get? b = some o := IC.toInCall.keep
  have hn := IC.toInCall.ns
  have hxL : s.heap.objs.size ≠ x := Nat.ne_of_gt (Heap.lt_size hx)
  have X₁ : K.In h₁ := X.keeps k
  have hx₁ := k _ _ hx
  -- self.by = by
  show wpAny _ _ (execs _ _) _ _ _
  refine wpAny_execs_cons (plainObj_wpAny_Assign_Attribute ?_)
  refine ldC (v := v) hn (by first | rfl | with_unfolding_all rfl | kernel_rfl) (ldC (v := .ref x) hn (by first | rfl | with_unfolding_all rfl | kernel_rfl) ?_)
  refine set_plain X₁ (ox := excO C t0) (od := none) ⟨hx₁, rfl, rfl, trivial⟩ T.sa ?_
  refine exc_osa X₁ hx₁ hcl (show refsVE (.ref C :: bm) = true from hbm) rfl T.noN (fun h₃ tk₃ dx k₃ dn dne hx₃ hn₃ => ?_)
  show wpAny _ _ (execs _ _) _ _ _
  have z : s.heap.objs.size < h₁.objs.size := hn.lt
  exact wpAny_execs_nil (hq h₃ tk₃ dx ⟨fun b o hb e => k₃ b o hb (k b o e), hx₃, Nat.le_of_lt (Nat.lt_of_lt_of_le z dn), dne, hn₃⟩)
theorem low_made (T : LowTxt K mg C fI) {v : Value} (X : K.In s.heap) (hlim : s.heap.NoLimit) (hroom : A.depth + 1 < recursionLimit)
    (hq : ∀ h' tk e d, OwnMade s.heap h' e C d v → R (.ok (.ret (.ref e))) { s with heap := h', toks := tk }) :
    codeAny (model prog w) A (.call (.ref C) ⟨[v], []⟩) R s := by
  obtain ⟨nm, q, N, bs, bm, sn, sub, ab, col, dd, k0, k1, k2, k3, k5, hC, hbm⟩ := T.cls
  obtain ⟨hp, g, dr, tk, os⟩ := s
  have k : ∀ b o, hp.get? b = some o → ((hp.push (kdv_tup [v])).push (excO C hp.objs.size)).get? b = some o := fun b o e => Heap.get?_push_of_some _ (Heap.get?_push_of_some _ e)
  have hget : ((hp.push (kdv_tup [v])).push (excO C hp.objs.size)).get? (hp.objs.size + 1) = some (excO C hp.objs.size) := by heap_get
  have hnx : K.lookup (hp.objs.size + 1) = none := by
    cases e : K.lookup (hp.objs.size + 1) with
    | none => rfl
    | some o =>
      have z : hp.get? (hp.objs.size + 1) = some o := X _ _ e
      exact absurd (Nat.lt_of_succ_lt (Heap.lt_size z)) (Nat.lt_irrefl _)
  refine call_own F.excBase_ValueError (fun X => refsVE_contains X bm hbm) (X _ _ hC) (looks_findIn X T.iC) (fun self => bind_fn X self T.tC) (one_size v) ?_
  refine low_init (s := ⟨(hp.push (kdv_tup [v])).push (excO C hp.objs.size), g, dr, tk, os⟩) T (X.keeps k) (hlim.keeps k) hget hnx ?_ fun h' tk' dx ⟨k', hx, dn, dne, hns⟩ => ?_
  · show A.depth + 1 < recursionLimit
    exact hroom
  · have old : ∀ b o, hp.get? b = some o → h'.get? b = some o := fun b o e => k' b o (Nat.ne_of_lt (Nat.lt_succ_of_lt (Heap.lt_size e))) (k b o e)
    have z : hp.objs.size + 1 + 1 ≤ dx := by
      first
        | (simpa only [Heap.size_push] using dn)
        | exact dn
        | (have q := dn; rw [Heap.size_push, Heap.size_push] at q; exact q)
    exact ⟨rfl, hq h' tk' (hp.objs.size + 1) dx ⟨old, Nat.le_succ _, ⟨_, _, hx, rfl, rfl, rfl, rfl⟩, Nat.le_trans (Nat.le_trans (Nat.le_succ _) (Nat.le_succ _)) z, dne, hns⟩⟩
theorem low_initK (T : LowTxt K mg C fI) {x t0 : Addr} {v : Value} (X : K.In s.heap) (hlim : s.heap.NoLimit) (hx : s.heap.get? x = some (excO C t0)) (hnx : K.lookup x = none) (hroom : A.depth < recursionLimit)
    (hq : ∀ h' tk dx, InitEnd s.heap h' x C dx t0 v → R (.ok (.ret .none)) { s with heap := h', toks := tk }) :
    codeAny (model prog w) A (.call (.ref fI) ⟨[.ref x], [("part", v)]⟩) R s := by
  obtain ⟨oc, od, doc, pm, an, cdv, ct, osl, p1, p2, q1, q2, q3, q4, ho, hcd⟩ := T.fn
  obtain ⟨nm, q, N, bs, bm, sn, sub, ab, col, dd, k0, k1, k2, k3, k5, hC, hbm⟩ := T.cls
  have hcl : clsIn K C = some { name := nm, bases := bs, mro := .ref C :: bm, ns := N, qualname := q, hasDict := true, slotNames := sn, subclasses := sub, abstract := ab, collection := col, hasDel := false } := by unfold clsIn; rw [hC] <;> rfl
  refine Att.call_fn (binds := [("self", .ref x), ("part", v)]) X hlim ho hcd hroom (BindsTo.of_eq (by first | rfl | with_unfolding_all rfl)) (by first | rfl | decide | with_unfolding_all rfl) (fun s₁ IC => ?_) rfl rfl rfl
  obtain ⟨h₁, tk₁, rfl⟩ := IC.toInCall.same
  have k : ∀ b o, s.heap.get? b = some o → h₁.get? b = some o := IC.toInCall.keep
  have hn := IC.toInCall.ns
  have hxL : s.heap.objs.size ≠ x := Nat.ne_of_gt (Heap.lt_size hx)
  have X₁ : K.In h₁ := X.keeps k
  have hx₁ := k _ _ hx
  -- self.by = by
  show wpAny _ _ (execs _ _) _ _ _
  refine wpAny_execs_cons (plainObj_wpAny_Assign_Attribute ?_)
  refine ldC (v := v) hn (by first | rfl | with_unfolding_all rfl | kernel_rfl) (ldC (v := .ref x) hn (by first | rfl | with_unfolding_all rfl | kernel_rfl) ?_)
  refine set_plain X₁ (ox := excO C t0) (od := none) ⟨hx₁, rfl, rfl, trivial⟩ T.sa ?_
  refine exc_osa X₁ hx₁ hcl (show refsVE (.ref C :: bm) = true from hbm) rfl T.noN (fun h₃ tk₃ dx k₃ dn dne hx₃ hn₃ => ?_)
  show wpAny _ _ (execs _ _) _ _ _
  have z : s.heap.objs.size < h₁.objs.size := hn.lt
  exact wpAny_execs_nil (hq h₃ tk₃ dx ⟨fun b o hb e => k₃ b o hb (k b o e), hx₃, Nat.le_of_lt (Nat.lt_of_lt_of_le z dn), dne, hn₃⟩)
theorem low_madeK (T : LowTxt K mg C fI) {v : Value} (X : K.In s.heap) (hlim : s.heap.NoLimit) (hroom : A.depth + 1 < recursionLimit)
    (hq : ∀ h' tk e d, OwnMade s.heap h' e C d v → R (.ok (.ret (.ref e))) { s with heap := h', toks := tk }) :
    codeAny (model prog w) A (.call (.ref C) ⟨[], [("part", v)]⟩) R s := by
  obtain ⟨nm, q, N, bs, bm, sn, sub, ab, col, dd, k0, k1, k2, k3, k5, hC, hbm⟩ := T.cls
  obtain ⟨hp, g, dr, tk, os⟩ := s
  have k : ∀ b o, hp.get? b = some o → ((hp.push (kdv_tup [])).push (excO C hp.objs.size)).get? b = some o := fun b o e => Heap.get?_push_of_some _ (Heap.get?_push_of_some _ e)
  have hget : ((hp.push (kdv_tup [])).push (excO C hp.objs.size)).get? (hp.objs.size + 1) = some (excO C hp.objs.size) := by heap_get
  have hnx : K.lookup (hp.objs.size + 1) = none := by
    cases e : K.lookup (hp.objs.size + 1) with
    | none => rfl
    | some o =>
      have z : hp.get? (hp.objs.size + 1) = some o := X _ _ e
      exact absurd (Nat.lt_of_succ_lt (Heap.lt_size z)) (Nat.lt_irrefl _)
  refine call_kw F.excBase_ValueError (fun X => refsVE_contains X bm hbm) (X _ _ hC) (looks_findIn X T.iC) (fun self => bind_fn X self T.tC) ?_
  refine low_initK (s := ⟨(hp.push (kdv_tup [])).push (excO C hp.objs.size), g, dr, tk, os⟩) T (X.keeps k) (hlim.keeps k) hget hnx ?_ fun h' tk' dx ⟨k', hx, dn, dne, hns⟩ => ?_
  · show A.depth + 1 < recursionLimit
    exact hroom
  · have old : ∀ b o, hp.get? b = some o → h'.get? b = some o := fun b o e => k' b o (Nat.ne_of_lt (Nat.lt_succ_of_lt (Heap.lt_size e))) (k b o e)
    have z : hp.objs.size + 1 + 1 ≤ dx := by
      first
        | (simpa only [Heap.size_push] using dn)
        | exact dn
        | (have q := dn; rw [Heap.size_push, Heap.size_push] at q; exact q)
    exact ⟨rfl, hq h' tk' (hp.objs.size + 1) dx ⟨old, Nat.le_succ _, ⟨_, _, hx, rfl, rfl, rfl, rfl⟩, Nat.le_trans (Nat.le_trans (Nat.le_succ _) (Nat.le_succ _)) z, dne, hns⟩⟩
end
end ErrBadPart
end PySem
namespace L2
open PySem PySem.Spec PyProof.Rows
theorem relO_low_BadPart {v : V} {v' : Value} (r : RelV v v') (f : Str) : RelO (List.lookup f [(("part" : Str), v)]) (if f = "part" then some v' else none) := by
  by_cases hw : f = "part"
  · subst hw
    rw [if_pos rfl]
    have q : List.lookup ("part" : Str) [(("part" : Str), v)] = some v := by simp [List.lookup]
    rw [q]
    exact r
  · rw [if_neg hw]
    have qw : (f == ("part" : Str)) = false := by simpa using hw
    have q2 : List.lookup f [(("part" : Str), v)] = none := by simp [List.lookup, qw]
    rw [q2]
    trivial
section
variable {X : Cx} {C fI : Addr}
/-- Low(e) -/
def tMkLow_BadPart (C : Addr) (ta : TA) : St → Hp → XK → Prop := fun σ H Q => ta σ H fun vs H1 => ∃ v, vs = [v] ∧ ∀ d, H1 d = none → Q (.ref C) (some d) (upd H1 d (.xd [(("part" : Str), v)]))
theorem pmk_low_BadPart {a : Expr} {ta : TA} {p pos : Pos} {k : Nat} (T : PySem.ErrBadPart.LowTxt X.K X.mg C fI) (hr : Room k X.A) (ha : PA X [a] ta) (hg : Gl X "BadPart" := by rfl)
    (he : starEach (a :: []) X.env = (false, eval a X.env) :: starEach [] X.env := by rfl) (hpl : (backTo pos (starEach [] X.env)).any (·.1) = false := by rfl) :
    PMk X (.Call (.Name "BadPart" p) [a] [] pos) (tMkLow_BadPart C ta) := by
  intro pins s σ H Q I h
  refine wpAny_Call_Name_kw (ld_glob I hg T.gC ?_)
  refine PySem.W.callWith_K (h₀ := X.base) I.ok.mod.kin T.kC (thn (ha.run pos pins s σ H _ I h) fun us s1 hh => ?_) he hpl
  obtain ⟨vs, H1, I1, r1, v, ev, q1⟩ := hh
  subst ev
  refine ⟨I1.kIn, ?_⟩
  cases r1 with
  | cons rv rn =>
    rename_i v' us'
    cases rn
    show wpAny _ _ (call (.ref C) [v']) _ _ _
    have hlim := I1.nolimit
    obtain ⟨hp, g, dr, tk, os⟩ := s1
    refine wpAny_call (PySem.ErrBadPart.low_made T I1.kIn hlim (by have := hr.dp; omega) fun h' tk' e d M => ?_)
    show MkP X pins σ Q (.ref e) ⟨h', g, dr, tk', os⟩
    obtain ⟨oe, fv, hoe, hc, hd, hdat, h1⟩ := M.obj
    have hns := M.ns
    obtain ⟨G', g1, g2⟩ := restrict h' fun b => decide (b ≠ e)
    have gk : ∀ b, b ≠ e → G'.get? b = h'.get? b := fun b hb => g1 b (decide_eq_true hb)
    have ge : G'.get? e = none := g2 e (by simp)
    have old : ∀ b o, hp.get? b = some o → G'.get? b = some o := fun b o q => (gk b (Nat.ne_of_lt (Nat.lt_of_lt_of_le (Heap.lt_size q) M.new))).trans (M.keep b o q)
    have ob : ObjOk X.prog X.w (upd H1 d (.xd [(("part" : Str), v)])) G' d (.xd [(("part" : Str), v)]) :=
      ⟨_, hns.at (fun o q => (gk d M.dne).trans q), fun f => relO_low_BadPart rv f⟩
    have J : Inv X pins σ (upd H1 d (.xd [(("part" : Str), v)])) ⟨G', g, dr, tk', os⟩ := I1.laid (t' := tk') old M.dbig ob
    refine ⟨e, oe, fv, ⟨G', g, dr, tk', os⟩, _, .ref C, some d, rfl, J, fun b o q => ?_, ge, hoe, ⟨hc, hd⟩, hdat, h1, ?_, rfl, I1.bare, raises_own T.exC T.tyC, q1 d (I1.hok.fresh M.dbig)⟩
    · by_cases hb : b = e
      · have q' : G'.get? b = some o := q
        rw [hb, ge] at q'; cases q'
      · exact (gk b hb).symm.trans q
    · rw [upd_ne (Ne.symm M.dne)]
      exact I1.hok.fresh M.new
/-- raise Low(e) -/
def tRaiseLow_BadPart (C : Addr) (W : WX) (ta : TA) : TS := fun _ σ H => tMkLow_BadPart C ta σ H fun cls d H' => W cls d σ H'
theorem ps_raiseLow_BadPart {a : Expr} {ta : TA} {W : WX} {p pos pos2 : Pos} {k : Nat} (hc : X.calm = true) (T : PySem.ErrBadPart.LowTxt X.K X.mg C fI) (hr : Room k X.A) (tk : Takes X W) (ha : PA X [a] ta) (hg : Gl X "BadPart" := by rfl)
    (he : starEach (a :: []) X.env = (false, eval a X.env) :: starEach [] X.env := by rfl) (hpl : (backTo pos (starEach [] X.env)).any (·.1) = false := by rfl) :
    PS X (.Raise (some (.Call (.Name "BadPart" p) [a] [] pos)) none pos2) (tRaiseLow_BadPart C W ta) := ps_raise hc tk (pmk_low_BadPart T hr ha hg he hpl)
/-- C(f = e).f -/
theorem pe_namk_BadPart {e : Expr} {te : TE} {p kp pos pos2 : Pos} {k : Nat} (T : PySem.ErrBadPart.LowTxt X.K X.mg C fI) (hr : Room k X.A) (he : PE X e te) (hg : Gl X "BadPart" := by rfl)
    (hall : (backToKw pos (keywordEach [⟨some "part", e, kp⟩] X.env)).all (·.1.isSome) = true := by rfl) (hks : (backToKw pos (keywordEach [⟨some "part", e, kp⟩] X.env)).filterMap (·.1) = [("part" : Str)] := by rfl)
    (hpl : ((backTo pos (starEach [] X.env)).any (·.1) || (backToKw pos (keywordEach [⟨some "part", e, kp⟩] X.env)).any (·.1.isNone)) = false := by rfl)
    (hb : attributeBase (.Call (.Name "BadPart" p) [] [⟨some "part", e, kp⟩] pos) "part" X.env (eval (.Call (.Name "BadPart" p) [] [⟨some "part", e, kp⟩] pos) X.env) = eval (.Call (.Name "BadPart" p) [] [⟨some "part", e, kp⟩] pos) X.env := by rfl) :
    PE X (.Attribute (.Call (.Name "BadPart" p) [] [⟨some "part", e, kp⟩] pos) "part" pos2) te := by
  refine ⟨fun pins s σ H Q I h => ?_⟩
  refine attr_of hb ?_
  refine wpAny_Call_Name_kw (ld_glob I hg T.gC ?_)
  refine PySem.W.callWith_KW0 (h₀ := X.base) I.ok.mod.kin T.kC hall (thn ((pk_one he).run pos pins s σ H (fun zs H2 => match zs with | [v] => Q v H2 | _ => False) I h) fun us s1 hh => ?_) hpl
  obtain ⟨vs, H1, I1, r1, q1⟩ := hh
  refine ⟨I1.kIn, ?_⟩
  rw [hks]
  match vs, us, r1, q1 with
  | [v], [v'], .cons rv .nil, q1 =>
    have hlim := I1.nolimit
    obtain ⟨hp, g, dr, tk, os⟩ := s1
    refine wpAny_call (PySem.ErrBadPart.low_madeK T I1.kIn hlim (by have := hr.dp; omega) fun h' tk' e d M => ?_)
    show wpAny _ _ (getAttr (.ref e) "part" true) _ _ ⟨h', g, dr, tk', os⟩
    obtain ⟨oe, fv, hoe, hc, hd, hdat, h1⟩ := M.obj
    obtain ⟨od, hod, hl⟩ := lookIn_ns M.ns
    have J : PySem.W.InstAt h' e oe C (some od) := ⟨hoe, hc, by unfold PySem.W.notCls; rw [hdat] <;> rfl, by rw [hd]; exact hod⟩
    have I2 : Inv X pins σ H1 ⟨h', g, dr, tk', os⟩ := I1.kept (t' := tk') M.keep
    exact HandSPX.exc_get I2.kIn J T.ga T.gg T.exC (PySem.W.findObj_own T.hdC T.noN rfl (by rw [hl, if_pos rfl])) (handed_of rv) ⟨v, H1, I2.tok _, rv, q1⟩
end
end L2
namespace PySem
namespace ErrBadNumber
open PySem.W PySem.Calls PyProof.Rows PySem.HandSPX
def iA (p1 p2 : Pos) : Arguments := { posonlyargs := [], args := [{ arg := "self", annotation := none, pos := p1 }, { arg := "number", annotation := none, pos := p2 }], vararg := none, kwonlyargs := [], kw_defaults := [], kwarg := none, defaults := [] }
def iB (q1 q2 q3 q4 : Pos) : List Stmt := [.Assign [.Attribute (.Name "self" q1) "number" q2] (.Name "number" q3) q4]
def iS : Scope := { kind := .function, names := [(PySem.Str.ofString "self", .local), (PySem.Str.ofString "number", .local)], isGenerator := false, isCoroutine := false, more := [] }
/-- what the written part says of Low, at C, and of its __init__, at fI -/
structure LowTxt (K : Frag) (mg : Str → Option Value) (C fI : Addr) : Prop where
  gC : mg "BadNumber" = some (.ref C)
  cls : ∃ nm q N bs bm sn sub ab col dd k0 k1 k2 k3 k5, K.lookup C = some (excClassObj nm q C N bs bm true sn sub ab col dd k0 k1 k2 k3 k5 "ValueError.__new__") ∧ refsVE bm = true
  sa : findIn K (.ref C) "__setattr__" = some (some (.builtin "object.__setattr__"))
  ga : findIn K (.ref C) "__getattribute__" = some (some (.builtin "BaseException.__getattribute__"))
  gg : findIn K (.ref C) "__getattr__" = some none
  noN : findIn K (.ref C) "number" = some none
  iC : findIn K (.ref C) "__init__" = some (some (.ref fI))
  tC : typeIn K (.ref fI) = some (.type "function")
  kC : keepIn K (.ref C) = true
  exC : subIn K (.ref C) (.type "BaseException") = some true
  tyC : typeIn K (.ref C) = some (.type "type")
  hdC : hasDictIn K C = true
  te : exmOne K (.ref C) (.ref C) = some true
  fn : ∃ (oc : Value) (od : Option Addr) (doc pm : Value) (an : Option Addr) (cdv ct : Value) (osl : Array (Option Value)) (p1 p2 q1 q2 q3 q4 : Pos),
    K.lookup fI = some ⟨oc, od, .func (fnOf "__init__" "BadNumber.__init__" (iA p1 p2) (iB q1 q2 q3 q4) iS .none .none doc pm an cdv ct), osl⟩ ∧ codeIn K cdv "BadNumber.__init__" = true
theorem one_size (v : Value) : [v].length ≤ sizeLine := by
  rw [sizeLine_eq]
  exact (by decide : 1 ≤ 16777216)
theorem ldC {M : Model} {s : Shared} {name : Str} {scope : Scope} {L a : Addr} {cd : Value} {m : Str → Option Value} {x : Str} {pos : Pos} {v : Value} {Q : Value → Shared → Prop} {A : Around} {E : Value → Shared → Prop} (hn : s.heap.Ns L m) (hv : m x = some v) (h : Q v s)
    (hk : scope.kind = .function := by rfl) (hl : (envOfC name scope L a cd).kindOf x = some .local := by rfl) (hd : (x == ("__debug__" : Str)) = false := by decide) :
    wpAny M A (eval (.Name x pos) (envOfC name scope L a cd)) Q E s := wpAny_Name (wpAny_loadName_local hk hl hn hv h) hd
/-- what __init__ leaves of a fresh exception at x -/
structure InitEnd (h h' : Heap) (x C dx t1 : Addr) (v : Value) : Prop where
  keep : ∀ b o, b ≠ x → h.get? b = some o → h'.get? b = some o
  obj : h'.get? x = some { cls := .ref C, dict := some dx, data := .fields #[.ref t1, .none, .none, .none, .bool false, .none] }
  dbig : h.objs.size ≤ dx
  dne : dx ≠ x
  ns : h'.Ns1 dx (fun y => if y = "number" then some v else none)
/-- a made Low -/
structure OwnMade (h h' : Heap) (e C d : Addr) (v : Value) : Prop where
  keep : ∀ b o, h.get? b = some o → h'.get? b = some o
  new : h.objs.size ≤ e
  obj : ∃ oe vs, h'.get? e = some oe ∧ oe.cls = .ref C ∧ oe.dict = some d ∧ oe.data = .fields vs ∧ vs[1]? = some .none
  dbig : h.objs.size ≤ d
  dne : d ≠ e
  ns : h'.Ns1 d (fun y => if y = "number" then some v else none)
section
variable {prog : Program} {w : World} {A : Around} {E : Value → Shared → Prop} {R : Result → Shared → Prop} {s : Shared} {K : Frag} {mg : Str → Option Value} {C fI : Addr}
theorem low_init (T : LowTxt K mg C fI) {x t0 : Addr} {v : Value} (X : K.In s.heap) (hlim : s.heap.NoLimit) (hx : s.heap.get? x = some (excO C t0)) (hnx : K.lookup x = none) (hroom : A.depth < recursionLimit)
    (hq : ∀ h' tk dx, InitEnd s.heap h' x C dx t0 v → R (.ok (.ret .none)) { s with heap := h', toks := tk }) :
    codeAny (model prog w) A (.call (.ref fI) ⟨[.ref x, v], []⟩) R s := by
  obtain ⟨oc, od, doc, pm, an, cdv, ct, osl, p1, p2, q1, q2, q3, q4, ho, hcd⟩ := T.fn
  obtain ⟨nm, q, N, bs, bm, sn, sub, ab, col, dd, k0, k1, k2, k3, k5, hC, hbm⟩ := T.cls
  have hcl : clsIn K C = some { name := nm, bases := bs, mro := .ref C :: bm, ns := N, qualname := q, hasDict := true, slotNames := sn, subclasses := sub, abstract := ab, collection := col, hasDel := false } := by unfold clsIn; rw [hC] <;> rfl
  refine Att.call_fn (binds := [("self", .ref x), ("number", v)]) X hlim ho hcd hroom (BindsTo.of_eq (by first | rfl | with_unfolding_all rfl)) (by first | rfl | decide | with_unfolding_all rfl) (fun s₁ IC => ?_) rfl rfl rfl
  obtain ⟨h₁, tk₁, rfl⟩ := IC.toInCall.same
  have k : ∀ b o, s.heap.get? b = some o → h₁.get? b = some o := IC.toInCall.keep
  have hn := IC.toInCall.ns
  have hxL : s.heap.objs.size ≠ x := Nat.ne_of_gt (Heap.lt_size hx)
  have X₁ : K.In h₁ := X.keeps k
  have hx₁ := k _ _ hx
  -- self.by = by
  show wpAny _ _ (execs _ _) _ _ _
  refine wpAny_execs_cons (plainObj_wpAny_Assign_Attribute ?_)
  refine ldC (v := v) hn (by first | rfl | with_unfolding_all rfl | kernel_rfl) (ldC (v := .ref x) hn (by first | rfl | with_unfolding_all rfl | kernel_rfl) ?_)
  refine set_plain X₁ (ox := excO C t0) (od := none) ⟨hx₁, rfl, rfl, trivial⟩ T.sa ?_
  refine exc_osa X₁ hx₁ hcl (show refsVE (.ref C :: bm) = true from hbm) rfl T.noN (fun h₃ tk₃ dx k₃ dn dne hx₃ hn₃ => ?_)
  show wpAny _ _ (execs _ _) _ _ _
  have z : s.heap.objs.size < h₁.objs.size := hn.lt
  exact wpAny_execs_nil (hq h₃ tk₃ dx ⟨fun b o hb e => k₃ b o hb (k b o e), hx₃, Nat.le_of_lt (Nat.lt_of_lt_of_le z dn), dne, hn₃⟩)
theorem low_made (T : LowTxt K mg C fI) {v : Value} (X : K.In s.heap) (hlim : s.heap.NoLimit) (hroom : A.depth + 1 < recursionLimit)
    (hq : ∀ h' tk e d, OwnMade s.heap h' e C d v → R (.ok (.ret (.ref e))) { s with heap := h', toks := tk }) :
    codeAny (model prog w) A (.call (.ref C) ⟨[v], []⟩) R s := by
  obtain ⟨nm, q, N, bs, bm, sn, sub, ab, col, dd, k0, k1, k2, k3, k5, hC, hbm⟩ := T.cls
  obtain ⟨hp, g, dr, tk, os⟩ := s
  have k : ∀ b o, hp.get? b = some o → ((hp.push (kdv_tup [v])).push (excO C hp.objs.size)).get? b = some o := fun b o e => Heap.get?_push_of_some _ (Heap.get?_push_of_some _ e)
  have hget : ((hp.push (kdv_tup [v])).push (excO C hp.objs.size)).get? (hp.objs.size + 1) = some (excO C hp.objs.size) := by heap_get
  have hnx : K.lookup (hp.objs.size + 1) = none := by
    cases e : K.lookup (hp.objs.size + 1) with
    | none => rfl
    | some o =>
      have z : hp.get? (hp.objs.size + 1) = some o := X _ _ e
      exact absurd (Nat.lt_of_succ_lt (Heap.lt_size z)) (Nat.lt_irrefl _)
  refine call_own F.excBase_ValueError (fun X => refsVE_contains X bm hbm) (X _ _ hC) (looks_findIn X T.iC) (fun self => bind_fn X self T.tC) (one_size v) ?_
  refine low_init (s := ⟨(hp.push (kdv_tup [v])).push (excO C hp.objs.size), g, dr, tk, os⟩) T (X.keeps k) (hlim.keeps k) hget hnx ?_ fun h' tk' dx ⟨k', hx, dn, dne, hns⟩ => ?_
  · show A.depth + 1 < recursionLimit
    exact hroom
  · have old : ∀ b o, hp.get? b = some o → h'.get? b = some o := fun b o e => k' b o (Nat.ne_of_lt (Nat.lt_succ_of_lt (Heap.lt_size e))) (k b o e)
    have z : hp.objs.size + 1 + 1 ≤ dx := by
      first
        | (simpa only [Heap.size_push] using dn)
        | exact dn
        | (have q := dn; rw [Heap.size_push, Heap.size_push] at q; exact q)
    exact ⟨rfl, hq h' tk' (hp.objs.size + 1) dx ⟨old, Nat.le_succ _, ⟨_, _, hx, rfl, rfl, rfl, rfl⟩, Nat.le_trans (Nat.le_trans (Nat.le_succ _) (Nat.le_succ _)) z, dne, hns⟩⟩
theorem low_initK (T : LowTxt K mg C fI) {x t0 : Addr} {v : Value} (X : K.In s.heap) (hlim : s.heap.NoLimit) (hx : s.heap.get? x = some (excO C t0)) (hnx : K.lookup x = none) (hroom : A.depth < recursionLimit)
    (hq : ∀ h' tk dx, InitEnd s.heap h' x C dx t0 v → R (.ok (.ret .none)) { s with heap := h', toks := tk }) :
    codeAny (model prog w) A (.call (.ref fI) ⟨[.ref x], [("number", v)]⟩) R s := by
  obtain ⟨oc, od, doc, pm, an, cdv, ct, osl, p1, p2, q1, q2, q3, q4, ho, hcd⟩ := T.fn
  obtain ⟨nm, q, N, bs, bm, sn, sub, ab, col, dd, k0, k1, k2, k3, k5, hC, hbm⟩ := T.cls
  have hcl : clsIn K C = some { name := nm, bases := bs, mro := .ref C :: bm, ns := N, qualname := q, hasDict := true, slotNames := sn, subclasses := sub, abstract := ab, collection := col, hasDel := false } := by unfold clsIn; rw [hC] <;> rfl
  refine Att.call_fn (binds := [("self", .ref x), ("number", v)]) X hlim ho hcd hroom (BindsTo.of_eq (by first | rfl | with_unfolding_all rfl)) (by first | rfl | decide | with_unfolding_all rfl) (fun s₁ IC => ?_) rfl rfl rfl
  obtain ⟨h₁, tk₁, rfl⟩ := IC.toInCall.same
  have k : ∀ b o, s.heap.get? b = some o → h₁.get? b = some o := IC.toInCall.keep
  have hn := IC.toInCall.ns
  have hxL : s.heap.objs.size ≠ x := Nat.ne_of_gt (Heap.lt_size hx)
  have X₁ : K.In h₁ := X.keeps k
  have hx₁ := k _ _ hx
  -- self.by = by
  show wpAny _ _ (execs _ _) _ _ _
  refine wpAny_execs_cons (plainObj_wpAny_Assign_Attribute ?_)
  refine ldC (v := v) hn (by first | rfl | with_unfolding_all rfl | kernel_rfl) (ldC (v := .ref x) hn (by first | rfl | with_unfolding_all rfl | kernel_rfl) ?_)
  refine set_plain X₁ (ox := excO C t0) (od := none) ⟨hx₁, rfl, rfl, trivial⟩ T.sa ?_
  refine exc_osa X₁ hx₁ hcl (show refsVE (.ref C :: bm) = true from hbm) rfl T.noN (fun h₃ tk₃ dx k₃ dn dne hx₃ hn₃ => ?_)
  show wpAny _ _ (execs _ _) _ _ _
  have z : s.heap.objs.size < h₁.objs.size := hn.lt
  exact wpAny_execs_nil (hq h₃ tk₃ dx ⟨fun b o hb e => k₃ b o hb (k b o e), hx₃, Nat.le_of_lt (Nat.lt_of_lt_of_le z dn), dne, hn₃⟩)
theorem low_madeK (T : LowTxt K mg C fI) {v : Value} (X : K.In s.heap) (hlim : s.heap.NoLimit) (hroom : A.depth + 1 < recursionLimit)
    (hq : ∀ h' tk e d, OwnMade s.heap h' e C d v → R (.ok (.ret (.ref e))) { s with heap := h', toks := tk }) :
    codeAny (model prog w) A (.call (.ref C) ⟨[], [("number", v)]⟩) R s := by
  obtain ⟨nm, q, N, bs, bm, sn, sub, ab, col, dd, k0, k1, k2, k3, k5, hC, hbm⟩ := T.cls
  obtain ⟨hp, g, dr, tk, os⟩ := s
  have k : ∀ b o, hp.get? b = some o → ((hp.push (kdv_tup [])).push (excO C hp.objs.size)).get? b = some o := fun b o e => Heap.get?_push_of_some _ (Heap.get?_push_of_some _ e)
  have hget : ((hp.push (kdv_tup [])).push (excO C hp.objs.size)).get? (hp.objs.size + 1) = some (excO C hp.objs.size) := by heap_get
  have hnx : K.lookup (hp.objs.size + 1) = none := by
    cases e : K.lookup (hp.objs.size + 1) with
    | none => rfl
    | some o =>
      have z : hp.get? (hp.objs.size + 1) = some o := X _ _ e
      exact absurd (Nat.lt_of_succ_lt (Heap.lt_size z)) (Nat.lt_irrefl _)
  refine call_kw F.excBase_ValueError (fun X => refsVE_contains X bm hbm) (X _ _ hC) (looks_findIn X T.iC) (fun self => bind_fn X self T.tC) ?_
  refine low_initK (s := ⟨(hp.push (kdv_tup [])).push (excO C hp.objs.size), g, dr, tk, os⟩) T (X.keeps k) (hlim.keeps k) hget hnx ?_ fun h' tk' dx ⟨k', hx, dn, dne, hns⟩ => ?_
  · show A.depth + 1 < recursionLimit
    exact hroom
  · have old : ∀ b o, hp.get? b = some o → h'.get? b = some o := fun b o e => k' b o (Nat.ne_of_lt (Nat.lt_succ_of_lt (Heap.lt_size e))) (k b o e)
    have z : hp.objs.size + 1 + 1 ≤ dx := by
      first
        | (simpa only [Heap.size_push] using dn)
        | exact dn
        | (have q := dn; rw [Heap.size_push, Heap.size_push] at q; exact q)
    exact ⟨rfl, hq h' tk' (hp.objs.size + 1) dx ⟨old, Nat.le_succ _, ⟨_, _, hx, rfl, rfl, rfl, rfl⟩, Nat.le_trans (Nat.le_trans (Nat.le_succ _) (Nat.le_succ _)) z, dne, hns⟩⟩
end
end ErrBadNumber
end PySem
namespace L2
open PySem PySem.Spec PyProof.Rows
theorem relO_low_BadNumber {v : V} {v' : Value} (r : RelV v v') (f : Str) : RelO (List.lookup f [(("number" : Str), v)]) (if f = "number" then some v' else none) := by
  by_cases hw : f = "number"
  · subst hw
    rw [if_pos rfl]
    have q : List.lookup ("number" : Str) [(("number" : Str), v)] = some v := by simp [List.lookup]
    rw [q]
    exact r
  · rw [if_neg hw]
    have qw : (f == ("number" : Str)) = false := by simpa using hw
    have q2 : List.lookup f [(("number" : Str), v)] = none := by simp [List.lookup, qw]
    rw [q2]
    trivial
section
variable {X : Cx} {C fI : Addr}
/-- Low(e) -/
def tMkLow_BadNumber (C : Addr) (ta : TA) : St → Hp → XK → Prop := fun σ H Q => ta σ H fun vs H1 => ∃ v, vs = [v] ∧ ∀ d, H1 d = none → Q (.ref C) (some d) (upd H1 d (.xd [(("number" : Str), v)]))
theorem pmk_low_BadNumber {a : Expr} {ta : TA} {p pos : Pos} {k : Nat} (T : PySem.ErrBadNumber.LowTxt X.K X.mg C fI) (hr : Room k X.A) (ha : PA X [a] ta) (hg : Gl X "BadNumber" := by rfl)
    (he : starEach (a :: []) X.env = (false, eval a X.env) :: starEach [] X.env := by rfl) (hpl : (backTo pos (starEach [] X.env)).any (·.1) = false := by rfl) :
    PMk X (.Call (.Name "BadNumber" p) [a] [] pos) (tMkLow_BadNumber C ta) := by
  intro pins s σ H Q I h
  refine wpAny_Call_Name_kw (ld_glob I hg T.gC ?_)
  refine PySem.W.callWith_K (h₀ := X.base) I.ok.mod.kin T.kC (thn (ha.run pos pins s σ H _ I h) fun us s1 hh => ?_) he hpl
  obtain ⟨vs, H1, I1, r1, v, ev, q1⟩ := hh
  subst ev
  refine ⟨I1.kIn, ?_⟩
  cases r1 with
  | cons rv rn =>
    rename_i v' us'
    cases rn
    show wpAny _ _ (call (.ref C) [v']) _ _ _
    have hlim := I1.nolimit
    obtain ⟨hp, g, dr, tk, os⟩ := s1
    refine wpAny_call (PySem.ErrBadNumber.low_made T I1.kIn hlim (by have := hr.dp; omega) fun h' tk' e d M => ?_)
    show MkP X pins σ Q (.ref e) ⟨h', g, dr, tk', os⟩
    obtain ⟨oe, fv, hoe, hc, hd, hdat, h1⟩ := M.obj
    have hns := M.ns
    obtain ⟨G', g1, g2⟩ := restrict h' fun b => decide (b ≠ e)
    have gk : ∀ b, b ≠ e → G'.get? b = h'.get? b := fun b hb => g1 b (decide_eq_true hb)
    have ge : G'.get? e = none := g2 e (by simp)
    have old : ∀ b o, hp.get? b = some o → G'.get? b = some o := fun b o q => (gk b (Nat.ne_of_lt (Nat.lt_of_lt_of_le (Heap.lt_size q) M.new))).trans (M.keep b o q)
    have ob : ObjOk X.prog X.w (upd H1 d (.xd [(("number" : Str), v)])) G' d (.xd [(("number" : Str), v)]) :=
      ⟨_, hns.at (fun o q => (gk d M.dne).trans q), fun f => relO_low_BadNumber rv f⟩
    have J : Inv X pins σ (upd H1 d (.xd [(("number" : Str), v)])) ⟨G', g, dr, tk', os⟩ := I1.laid (t' := tk') old M.dbig ob
    refine ⟨e, oe, fv, ⟨G', g, dr, tk', os⟩, _, .ref C, some d, rfl, J, fun b o q => ?_, ge, hoe, ⟨hc, hd⟩, hdat, h1, ?_, rfl, I1.bare, raises_own T.exC T.tyC, q1 d (I1.hok.fresh M.dbig)⟩
    · by_cases hb : b = e
      · have q' : G'.get? b = some o := q
        rw [hb, ge] at q'; cases q'
      · exact (gk b hb).symm.trans q
    · rw [upd_ne (Ne.symm M.dne)]
      exact I1.hok.fresh M.new
/-- raise Low(e) -/
def tRaiseLow_BadNumber (C : Addr) (W : WX) (ta : TA) : TS := fun _ σ H => tMkLow_BadNumber C ta σ H fun cls d H' => W cls d σ H'
theorem ps_raiseLow_BadNumber {a : Expr} {ta : TA} {W : WX} {p pos pos2 : Pos} {k : Nat} (hc : X.calm = true) (T : PySem.ErrBadNumber.LowTxt X.K X.mg C fI) (hr : Room k X.A) (tk : Takes X W) (ha : PA X [a] ta) (hg : Gl X "BadNumber" := by rfl)
    (he : starEach (a :: []) X.env = (false, eval a X.env) :: starEach [] X.env := by rfl) (hpl : (backTo pos (starEach [] X.env)).any (·.1) = false := by rfl) :
    PS X (.Raise (some (.Call (.Name "BadNumber" p) [a] [] pos)) none pos2) (tRaiseLow_BadNumber C W ta) := ps_raise hc tk (pmk_low_BadNumber T hr ha hg he hpl)
/-- C(f = e).f -/
theorem pe_namk_BadNumber {e : Expr} {te : TE} {p kp pos pos2 : Pos} {k : Nat} (T : PySem.ErrBadNumber.LowTxt X.K X.mg C fI) (hr : Room k X.A) (he : PE X e te) (hg : Gl X "BadNumber" := by rfl)
    (hall : (backToKw pos (keywordEach [⟨some "number", e, kp⟩] X.env)).all (·.1.isSome) = true := by rfl) (hks : (backToKw pos (keywordEach [⟨some "number", e, kp⟩] X.env)).filterMap (·.1) = [("number" : Str)] := by rfl)
    (hpl : ((backTo pos (starEach [] X.env)).any (·.1) || (backToKw pos (keywordEach [⟨some "number", e, kp⟩] X.env)).any (·.1.isNone)) = false := by rfl)
    (hb : attributeBase (.Call (.Name "BadNumber" p) [] [⟨some "number", e, kp⟩] pos) "number" X.env (eval (.Call (.Name "BadNumber" p) [] [⟨some "number", e, kp⟩] pos) X.env) = eval (.Call (.Name "BadNumber" p) [] [⟨some "number", e, kp⟩] pos) X.env := by rfl) :
    PE X (.Attribute (.Call (.Name "BadNumber" p) [] [⟨some "number", e, kp⟩] pos) "number" pos2) te := by
  refine ⟨fun pins s σ H Q I h => ?_⟩
  refine attr_of hb ?_
  refine wpAny_Call_Name_kw (ld_glob I hg T.gC ?_)
  refine PySem.W.callWith_KW0 (h₀ := X.base) I.ok.mod.kin T.kC hall (thn ((pk_one he).run pos pins s σ H (fun zs H2 => match zs with | [v] => Q v H2 | _ => False) I h) fun us s1 hh => ?_) hpl
  obtain ⟨vs, H1, I1, r1, q1⟩ := hh
  refine ⟨I1.kIn, ?_⟩
  rw [hks]
  match vs, us, r1, q1 with
  | [v], [v'], .cons rv .nil, q1 =>
    have hlim := I1.nolimit
    obtain ⟨hp, g, dr, tk, os⟩ := s1
    refine wpAny_call (PySem.ErrBadNumber.low_madeK T I1.kIn hlim (by have := hr.dp; omega) fun h' tk' e d M => ?_)
    show wpAny _ _ (getAttr (.ref e) "number" true) _ _ ⟨h', g, dr, tk', os⟩
    obtain ⟨oe, fv, hoe, hc, hd, hdat, h1⟩ := M.obj
    obtain ⟨od, hod, hl⟩ := lookIn_ns M.ns
    have J : PySem.W.InstAt h' e oe C (some od) := ⟨hoe, hc, by unfold PySem.W.notCls; rw [hdat] <;> rfl, by rw [hd]; exact hod⟩
    have I2 : Inv X pins σ H1 ⟨h', g, dr, tk', os⟩ := I1.kept (t' := tk') M.keep
    exact HandSPX.exc_get I2.kIn J T.ga T.gg T.exC (PySem.W.findObj_own T.hdC T.noN rfl (by rw [hl, if_pos rfl])) (handed_of rv) ⟨v, H1, I2.tok _, rv, q1⟩
end
end L2
namespace PySem
namespace ErrBadIndex
open PySem.W PySem.Calls PyProof.Rows PySem.HandSPX
def iA (p1 p2 : Pos) : Arguments := { posonlyargs := [], args := [{ arg := "self", annotation := none, pos := p1 }, { arg := "index", annotation := none, pos := p2 }], vararg := none, kwonlyargs := [], kw_defaults := [], kwarg := none, defaults := [] }
def iB (q1 q2 q3 q4 : Pos) : List Stmt := [.Assign [.Attribute (.Name "self" q1) "index" q2] (.Name "index" q3) q4]
def iS : Scope := { kind := .function, names := [(PySem.Str.ofString "self", .local), (PySem.Str.ofString "index", .local)], isGenerator := false, isCoroutine := false, more := [] }
/-- what the written part says of Low, at C, and of its __init__, at fI -/
structure LowTxt (K : Frag) (mg : Str → Option Value) (C fI : Addr) : Prop where
  gC : mg "BadIndex" = some (.ref C)
  cls : ∃ nm q N bs bm sn sub ab col dd k0 k1 k2 k3 k5, K.lookup C = some (excClassObj nm q C N bs bm true sn sub ab col dd k0 k1 k2 k3 k5 "ValueError.__new__") ∧ refsVE bm = true
  sa : findIn K (.ref C) "__setattr__" = some (some (.builtin "object.__setattr__"))
  ga : findIn K (.ref C) "__getattribute__" = some (some (.builtin "BaseException.__getattribute__"))
  gg : findIn K (.ref C) "__getattr__" = some none
  noN : findIn K (.ref C) "index" = some none
  iC : findIn K (.ref C) "__init__" = some (some (.ref fI))
  tC : typeIn K (.ref fI) = some (.type "function")
  kC : keepIn K (.ref C) = true
  exC : subIn K (.ref C) (.type "BaseException") = some true
  tyC : typeIn K (.ref C) = some (.type "type")
  hdC : hasDictIn K C = true
  te : exmOne K (.ref C) (.ref C) = some true
  fn : ∃ (oc : Value) (od : Option Addr) (doc pm : Value) (an : Option Addr) (cdv ct : Value) (osl : Array (Option Value)) (p1 p2 q1 q2 q3 q4 : Pos),
    K.lookup fI = some ⟨oc, od, .func (fnOf "__init__" "BadIndex.__init__" (iA p1 p2) (iB q1 q2 q3 q4) iS .none .none doc pm an cdv ct), osl⟩ ∧ codeIn K cdv "BadIndex.__init__" = true
theorem one_size (v : Value) : [v].length ≤ sizeLine := by
  rw [sizeLine_eq]
  exact (by decide : 1 ≤ 16777216)
theorem ldC {M : Model} {s : Shared} {name : Str} {scope : Scope} {L a : Addr} {cd : Value} {m : Str → Option Value} {x : Str} {pos : Pos} {v : Value} {Q : Value → Shared → Prop} {A : Around} {E : Value → Shared → Prop} (hn : s.heap.Ns L m) (hv : m x = some v) (h : Q v s)
    (hk : scope.kind = .function := by rfl) (hl : (envOfC name scope L a cd).kindOf x = some .local := by rfl) (hd : (x == ("__debug__" : Str)) = false := by decide) :
    wpAny M A (eval (.Name x pos) (envOfC name scope L a cd)) Q E s := wpAny_Name (wpAny_loadName_local hk hl hn hv h) hd
/-- what __init__ leaves of a fresh exception at x -/
structure InitEnd (h h' : Heap) (x C dx t1 : Addr) (v : Value) : Prop where
  keep : ∀ b o, b ≠ x → h.get? b = some o → h'.get? b = some o
  obj : h'.get? x = some { cls := .ref C, dict := some dx, data := .fields #[.ref t1, .none, .none, .none, .bool false, .none] }
  dbig : h.objs.size ≤ dx
  dne : dx ≠ x
  ns : h'.Ns1 dx (fun y => if y = "index" then some v else none)
/-- a made Low -/
structure OwnMade (h h' : Heap) (e C d : Addr) (v : Value) : Prop where
  keep : ∀ b o, h.get? b = some o → h'.get? b = some o
  new : h.objs.size ≤ e
  obj : ∃ oe vs, h'.get? e = some oe ∧ oe.cls = .ref C ∧ oe.dict = some d ∧ oe.data = .fields vs ∧ vs[1]? = some .none
  dbig : h.objs.size ≤ d
  dne : d ≠ e
  ns : h'.Ns1 d (fun y => if y = "index" then some v else none)
section
variable {prog : Program} {w : World} {A : Around} {E : Value → Shared → Prop} {R : Result → Shared → Prop} {s : Shared} {K : Frag} {mg : Str → Option Value} {C fI : Addr}
theorem low_init (T : LowTxt K mg C fI) {x t0 : Addr} {v : Value} (X : K.In s.heap) (hlim : s.heap.NoLimit) (hx : s.heap.get? x = some (excO C t0)) (hnx : K.lookup x = none) (hroom : A.depth < recursionLimit)
    (hq : ∀ h' tk dx, InitEnd s.heap h' x C dx t0 v → R (.ok (.ret .none)) { s with heap := h', toks := tk }) :
    codeAny (model prog w) A (.call (.ref fI) ⟨[.ref x, v], []⟩) R s := by
  obtain ⟨oc, od, doc, pm, an, cdv, ct, osl, p1, p2, q1, q2, q3, q4, ho, hcd⟩ := T.fn
  obtain ⟨nm, q, N, bs, bm, sn, sub, ab, col, dd, k0, k1, k2, k3, k5, hC, hbm⟩ := T.cls
  have hcl : clsIn K C = some { name := nm, bases := bs, mro := .ref C :: bm, ns := N, qualname := q, hasDict := true, slotNames := sn, subclasses := sub, abstract := ab, collection := col, hasDel := false } := by unfold clsIn; rw [hC] <;> rfl
  refine Att.call_fn (binds := [("self", .ref x), ("index", v)]) X hlim ho hcd hroom (BindsTo.of_eq (by first | rfl | with_unfolding_all rfl)) (by first | rfl | decide | with_unfolding_all rfl) (fun s₁ IC => ?_) rfl rfl rfl
  obtain ⟨h₁, tk₁, rfl⟩ := IC.toInCall.same
  have k : ∀ b o, s.heap.get? b = some o → h₁.get? b = some o := IC.toInCall.keep
  have hn := IC.toInCall.ns
  have hxL : s.heap.objs.size ≠ x := Nat.ne_of_gt (Heap.lt_size hx)
  have X₁ : K.In h₁ := X.keeps k
  have hx₁ := k _ _ hx
  -- self.by = by
  show wpAny _ _ (execs _ _) _ _ _
  refine wpAny_execs_cons (plainObj_wpAny_Assign_Attribute ?_)
  refine ldC (v := v) hn (by first | rfl | with_unfolding_all rfl | kernel_rfl) (ldC (v := .ref x) hn (by first | rfl | with_unfolding_all rfl | kernel_rfl) ?_)
  refine set_plain X₁ (ox := excO C t0) (od := none) ⟨hx₁, rfl, rfl, trivial⟩ T.sa ?_
  refine exc_osa X₁ hx₁ hcl (show refsVE (.ref C :: bm) = true from hbm) rfl T.noN (fun h₃ tk₃ dx k₃ dn dne hx₃ hn₃ => ?_)
  show wpAny _ _ (execs _ _) _ _ _
  have z : s.heap.objs.size < h₁.objs.size := hn.lt
  exact wpAny_execs_nil (hq h₃ tk₃ dx ⟨fun b o hb e => k₃ b o hb (k b o e), hx₃, Nat.le_of_lt (Nat.lt_of_lt_of_le z dn), dne, hn₃⟩)
theorem low_made (T : LowTxt K mg C fI) {v : Value} (X : K.In s.heap) (hlim : s.heap.NoLimit) (hroom : A.depth + 1 < recursionLimit)
    (hq : ∀ h' tk e d, OwnMade s.heap h' e C d v → R (.ok (.ret (.ref e))) { s with heap := h', toks := tk }) :
    codeAny (model prog w) A (.call (.ref C) ⟨[v], []⟩) R s := by
  obtain ⟨nm, q, N, bs, bm, sn, sub, ab, col, dd, k0, k1, k2, k3, k5, hC, hbm⟩ := T.cls
  obtain ⟨hp, g, dr, tk, os⟩ := s
  have k : ∀ b o, hp.get? b = some o → ((hp.push (kdv_tup [v])).push (excO C hp.objs.size)).get? b = some o := fun b o e => Heap.get?_push_of_some _ (Heap.get?_push_of_some _ e)
  have hget : ((hp.push (kdv_tup [v])).push (excO C hp.objs.size)).get? (hp.objs.size + 1) = some (excO C hp.objs.size) := by heap_get
  have hnx : K.lookup (hp.objs.size + 1) = none := by
    cases e : K.lookup (hp.objs.size + 1) with
    | none => rfl
    | some o =>
      have z : hp.get? (hp.objs.size + 1) = some o := X _ _ e
      exact absurd (Nat.lt_of_succ_lt (Heap.lt_size z)) (Nat.lt_irrefl _)
  refine call_own F.excBase_ValueError (fun X => refsVE_contains X bm hbm) (X _ _ hC) (looks_findIn X T.iC) (fun self => bind_fn X self T.tC) (one_size v) ?_
  refine low_init (s := ⟨(hp.push (kdv_tup [v])).push (excO C hp.objs.size), g, dr, tk, os⟩) T (X.keeps k) (hlim.keeps k) hget hnx ?_ fun h' tk' dx ⟨k', hx, dn, dne, hns⟩ => ?_
  · show A.depth + 1 < recursionLimit
    exact hroom
  · have old : ∀ b o, hp.get? b = some o → h'.get? b = some o := fun b o e => k' b o (Nat.ne_of_lt (Nat.lt_succ_of_lt (Heap.lt_size e))) (k b o e)
    have z : hp.objs.size + 1 + 1 ≤ dx := by
      first
        | (simpa only [Heap.size_push] using dn)
        | exact dn
        | (have q := dn; rw [Heap.size_push, Heap.size_push] at q; exact q)
    exact ⟨rfl, hq h' tk' (hp.objs.size + 1) dx ⟨old, Nat.le_succ _, ⟨_, _, hx, rfl, rfl, rfl, rfl⟩, Nat.le_trans (Nat.le_trans (Nat.le_succ _) (Nat.le_succ _)) z, dne, hns⟩⟩
theorem low_initK (T : LowTxt K mg C fI) {x t0 : Addr} {v : Value} (X : K.In s.heap) (hlim : s.heap.NoLimit) (hx : s.heap.get? x = some (excO C t0)) (hnx : K.lookup x = none) (hroom : A.depth < recursionLimit)
    (hq : ∀ h' tk dx, InitEnd s.heap h' x C dx t0 v → R (.ok (.ret .none)) { s with heap := h', toks := tk }) :
    codeAny (model prog w) A (.call (.ref fI) ⟨[.ref x], [("index", v)]⟩) R s := by
  obtain ⟨oc, od, doc, pm, an, cdv, ct, osl, p1, p2, q1, q2, q3, q4, ho, hcd⟩ := T.fn
  obtain ⟨nm, q, N, bs, bm, sn, sub, ab, col, dd, k0, k1, k2, k3, k5, hC, hbm⟩ := T.cls
  have hcl : clsIn K C = some { name := nm, bases := bs, mro := .ref C :: bm, ns := N, qualname := q, hasDict := true, slotNames := sn, subclasses := sub, abstract := ab, collection := col, hasDel := false } := by unfold clsIn; rw [hC] <;> rfl
  refine Att.call_fn (binds := [("self", .ref x), ("index", v)]) X hlim ho hcd hroom (BindsTo.of_eq (by first | rfl | with_unfolding_all rfl)) (by first | rfl | decide | with_unfolding_all rfl) (fun s₁ IC => ?_) rfl rfl rfl
  obtain ⟨h₁, tk₁, rfl⟩ := IC.toInCall.same
  have k : ∀ b o, s.heap.get? b = some o → h₁.get? b = some o := IC.toInCall.keep
  have hn := IC.toInCall.ns
  have hxL : s.heap.objs.size ≠ x := Nat.ne_of_gt (Heap.lt_size hx)
  have X₁ : K.In h₁ := X.keeps k
  have hx₁ := k _ _ hx
  -- self.by = by
  show wpAny _ _ (execs _ _) _ _ _
  refine wpAny_execs_cons (plainObj_wpAny_Assign_Attribute ?_)
  refine ldC (v := v) hn (by first | rfl | with_unfolding_all rfl | kernel_rfl) (ldC (v := .ref x) hn (by first | rfl | with_unfolding_all rfl | kernel_rfl) ?_)
  refine set_plain X₁ (ox := excO C t0) (od := none) ⟨hx₁, rfl, rfl, trivial⟩ T.sa ?_
  refine exc_osa X₁ hx₁ hcl (show refsVE (.ref C :: bm) = true from hbm) rfl T.noN (fun h₃ tk₃ dx k₃ dn dne hx₃ hn₃ => ?_)
  show wpAny _ _ (execs _ _) _ _ _
  have z : s.heap.objs.size < h₁.objs.size := hn.lt
  exact wpAny_execs_nil (hq h₃ tk₃ dx ⟨fun b o hb e => k₃ b o hb (k b o e), hx₃, Nat.le_of_lt (Nat.lt_of_lt_of_le z dn), dne, hn₃⟩)
theorem low_madeK (T : LowTxt K mg C fI) {v : Value} (X : K.In s.heap) (hlim : s.heap.NoLimit) (hroom : A.depth + 1 < recursionLimit)
    (hq : ∀ h' tk e d, OwnMade s.heap h' e C d v → R (.ok (.ret (.ref e))) { s with heap := h', toks := tk }) :
    codeAny (model prog w) A (.call (.ref C) ⟨[], [("index", v)]⟩) R s := by
  obtain ⟨nm, q, N, bs, bm, sn, sub, ab, col, dd, k0, k1, k2, k3, k5, hC, hbm⟩ := T.cls
  obtain ⟨hp, g, dr, tk, os⟩ := s
  have k : ∀ b o, hp.get? b = some o → ((hp.push (kdv_tup [])).push (excO C hp.objs.size)).get? b = some o := fun b o e => Heap.get?_push_of_some _ (Heap.get?_push_of_some _ e)
  have hget : ((hp.push (kdv_tup [])).push (excO C hp.objs.size)).get? (hp.objs.size + 1) = some (excO C hp.objs.size) := by heap_get
  have hnx : K.lookup (hp.objs.size + 1) = none := by
    cases e : K.lookup (hp.objs.size + 1) with
    | none => rfl
    | some o =>
      have z : hp.get? (hp.objs.size + 1) = some o := X _ _ e
      exact absurd (Nat.lt_of_succ_lt (Heap.lt_size z)) (Nat.lt_irrefl _)
  refine call_kw F.excBase_ValueError (fun X => refsVE_contains X bm hbm) (X _ _ hC) (looks_findIn X T.iC) (fun self => bind_fn X self T.tC) ?_
  refine low_initK (s := ⟨(hp.push (kdv_tup [])).push (excO C hp.objs.size), g, dr, tk, os⟩) T (X.keeps k) (hlim.keeps k) hget hnx ?_ fun h' tk' dx ⟨k', hx, dn, dne, hns⟩ => ?_
  · show A.depth + 1 < recursionLimit
    exact hroom
  · have old : ∀ b o, hp.get? b = some o → h'.get? b = some o := fun b o e => k' b o (Nat.ne_of_lt (Nat.lt_succ_of_lt (Heap.lt_size e))) (k b o e)
    have z : hp.objs.size + 1 + 1 ≤ dx := by
      first
        | (simpa only [Heap.size_push] using dn)
        | exact dn
        | (have q := dn; rw [Heap.size_push, Heap.size_push] at q; exact q)
    exact ⟨rfl, hq h' tk' (hp.objs.size + 1) dx ⟨old, Nat.le_succ _, ⟨_, _, hx, rfl, rfl, rfl, rfl⟩, Nat.le_trans (Nat.le_trans (Nat.le_succ _) (Nat.le_succ _)) z, dne, hns⟩⟩
end
end ErrBadIndex
end PySem
namespace L2
open PySem PySem.Spec PyProof.Rows
theorem relO_low_BadIndex {v : V} {v' : Value} (r : RelV v v') (f : Str) : RelO (List.lookup f [(("index" : Str), v)]) (if f = "index" then some v' else none) := by
  by_cases hw : f = "index"
  · subst hw
    rw [if_pos rfl]
    have q : List.lookup ("index" : Str) [(("index" : Str), v)] = some v := by simp [List.lookup]
    rw [q]
    exact r
  · rw [if_neg hw]
    have qw : (f == ("index" : Str)) = false := by simpa using hw
    have q2 : List.lookup f [(("index" : Str), v)] = none := by simp [List.lookup, qw]
    rw [q2]
    trivial
section
variable {X : Cx} {C fI : Addr}
/-- Low(e) -/
def tMkLow_BadIndex (C : Addr) (ta : TA) : St → Hp → XK → Prop := fun σ H Q => ta σ H fun vs H1 => ∃ v, vs = [v] ∧ ∀ d, H1 d = none → Q (.ref C) (some d) (upd H1 d (.xd [(("index" : Str), v)]))
theorem pmk_low_BadIndex {a : Expr} {ta : TA} {p pos : Pos} {k : Nat} (T : PySem.ErrBadIndex.LowTxt X.K X.mg C fI) (hr : Room k X.A) (ha : PA X [a] ta) (hg : Gl X "BadIndex" := by rfl)
    (he : starEach (a :: []) X.env = (false, eval a X.env) :: starEach [] X.env := by rfl) (hpl : (backTo pos (starEach [] X.env)).any (·.1) = false := by rfl) :
    PMk X (.Call (.Name "BadIndex" p) [a] [] pos) (tMkLow_BadIndex C ta) := by
  intro pins s σ H Q I h
  refine wpAny_Call_Name_kw (ld_glob I hg T.gC ?_)
  refine PySem.W.callWith_K (h₀ := X.base) I.ok.mod.kin T.kC (thn (ha.run pos pins s σ H _ I h) fun us s1 hh => ?_) he hpl
  obtain ⟨vs, H1, I1, r1, v, ev, q1⟩ := hh
  subst ev
  refine ⟨I1.kIn, ?_⟩
  cases r1 with
  | cons rv rn =>
    rename_i v' us'
    cases rn
    show wpAny _ _ (call (.ref C) [v']) _ _ _
    have hlim := I1.nolimit
    obtain ⟨hp, g, dr, tk, os⟩ := s1
    refine wpAny_call (PySem.ErrBadIndex.low_made T I1.kIn hlim (by have := hr.dp; omega) fun h' tk' e d M => ?_)
    show MkP X pins σ Q (.ref e) ⟨h', g, dr, tk', os⟩
    obtain ⟨oe, fv, hoe, hc, hd, hdat, h1⟩ := M.obj
    have hns := M.ns
    obtain ⟨G', g1, g2⟩ := restrict h' fun b => decide (b ≠ e)
    have gk : ∀ b, b ≠ e → G'.get? b = h'.get? b := fun b hb => g1 b (decide_eq_true hb)
    have ge : G'.get? e = none := g2 e (by simp)
    have old : ∀ b o, hp.get? b = some o → G'.get? b = some o := fun b o q => (gk b (Nat.ne_of_lt (Nat.lt_of_lt_of_le (Heap.lt_size q) M.new))).trans (M.keep b o q)
    have ob : ObjOk X.prog X.w (upd H1 d (.xd [(("index" : Str), v)])) G' d (.xd [(("index" : Str), v)]) :=
      ⟨_, hns.at (fun o q => (gk d M.dne).trans q), fun f => relO_low_BadIndex rv f⟩
    have J : Inv X pins σ (upd H1 d (.xd [(("index" : Str), v)])) ⟨G', g, dr, tk', os⟩ := I1.laid (t' := tk') old M.dbig ob
    refine ⟨e, oe, fv, ⟨G', g, dr, tk', os⟩, _, .ref C, some d, rfl, J, fun b o q => ?_, ge, hoe, ⟨hc, hd⟩, hdat, h1, ?_, rfl, I1.bare, raises_own T.exC T.tyC, q1 d (I1.hok.fresh M.dbig)⟩
    · by_cases hb : b = e
      · have q' : G'.get? b = some o := q
        rw [hb, ge] at q'; cases q'
      · exact (gk b hb).symm.trans q
    · rw [upd_ne (Ne.symm M.dne)]
      exact I1.hok.fresh M.new
/-- raise Low(e) -/
def tRaiseLow_BadIndex (C : Addr) (W : WX) (ta : TA) : TS := fun _ σ H => tMkLow_BadIndex C ta σ H fun cls d H' => W cls d σ H'
theorem ps_raiseLow_BadIndex {a : Expr} {ta : TA} {W : WX} {p pos pos2 : Pos} {k : Nat} (hc : X.calm = true) (T : PySem.ErrBadIndex.LowTxt X.K X.mg C fI) (hr : Room k X.A) (tk : Takes X W) (ha : PA X [a] ta) (hg : Gl X "BadIndex" := by rfl)
    (he : starEach (a :: []) X.env = (false, eval a X.env) :: starEach [] X.env := by rfl) (hpl : (backTo pos (starEach [] X.env)).any (·.1) = false := by rfl) :
    PS X (.Raise (some (.Call (.Name "BadIndex" p) [a] [] pos)) none pos2) (tRaiseLow_BadIndex C W ta) := ps_raise hc tk (pmk_low_BadIndex T hr ha hg he hpl)
/-- C(f = e).f -/
theorem pe_namk_BadIndex {e : Expr} {te : TE} {p kp pos pos2 : Pos} {k : Nat} (T : PySem.ErrBadIndex.LowTxt X.K X.mg C fI) (hr : Room k X.A) (he : PE X e te) (hg : Gl X "BadIndex" := by rfl)
    (hall : (backToKw pos (keywordEach [⟨some "index", e, kp⟩] X.env)).all (·.1.isSome) = true := by rfl) (hks : (backToKw pos (keywordEach [⟨some "index", e, kp⟩] X.env)).filterMap (·.1) = [("index" : Str)] := by rfl)
    (hpl : ((backTo pos (starEach [] X.env)).any (·.1) || (backToKw pos (keywordEach [⟨some "index", e, kp⟩] X.env)).any (·.1.isNone)) = false := by rfl)
    (hb : attributeBase (.Call (.Name "BadIndex" p) [] [⟨some "index", e, kp⟩] pos) "index" X.env (eval (.Call (.Name "BadIndex" p) [] [⟨some "index", e, kp⟩] pos) X.env) = eval (.Call (.Name "BadIndex" p) [] [⟨some "index", e, kp⟩] pos) X.env := by rfl) :
    PE X (.Attribute (.Call (.Name "BadIndex" p) [] [⟨some "index", e, kp⟩] pos) "index" pos2) te := by
  refine ⟨fun pins s σ H Q I h => ?_⟩
  refine attr_of hb ?_
  refine wpAny_Call_Name_kw (ld_glob I hg T.gC ?_)
  refine PySem.W.callWith_KW0 (h₀ := X.base) I.ok.mod.kin T.kC hall (thn ((pk_one he).run pos pins s σ H (fun zs H2 => match zs with | [v] => Q v H2 | _ => False) I h) fun us s1 hh => ?_) hpl
  obtain ⟨vs, H1, I1, r1, q1⟩ := hh
  refine ⟨I1.kIn, ?_⟩
  rw [hks]
  match vs, us, r1, q1 with
  | [v], [v'], .cons rv .nil, q1 =>
    have hlim := I1.nolimit
    obtain ⟨hp, g, dr, tk, os⟩ := s1
    refine wpAny_call (PySem.ErrBadIndex.low_madeK T I1.kIn hlim (by have := hr.dp; omega) fun h' tk' e d M => ?_)
    show wpAny _ _ (getAttr (.ref e) "index" true) _ _ ⟨h', g, dr, tk', os⟩
    obtain ⟨oe, fv, hoe, hc, hd, hdat, h1⟩ := M.obj
    obtain ⟨od, hod, hl⟩ := lookIn_ns M.ns
    have J : PySem.W.InstAt h' e oe C (some od) := ⟨hoe, hc, by unfold PySem.W.notCls; rw [hdat] <;> rfl, by rw [hd]; exact hod⟩
    have I2 : Inv X pins σ H1 ⟨h', g, dr, tk', os⟩ := I1.kept (t' := tk') M.keep
    exact HandSPX.exc_get I2.kIn J T.ga T.gg T.exC (PySem.W.findObj_own T.hdC T.noN rfl (by rw [hl, if_pos rfl])) (handed_of rv) ⟨v, H1, I2.tok _, rv, q1⟩
end
end L2
namespace PySem
namespace ErrBadName
open PySem.W PySem.Calls PyProof.Rows PySem.HandSPX
def iA (p1 p2 : Pos) : Arguments := { posonlyargs := [], args := [{ arg := "self", annotation := none, pos := p1 }, { arg := "name", annotation := none, pos := p2 }], vararg := none, kwonlyargs := [], kw_defaults := [], kwarg := none, defaults := [] }
def iB (q1 q2 q3 q4 : Pos) : List Stmt := [.Assign [.Attribute (.Name "self" q1) "name" q2] (.Name "name" q3) q4]
def iS : Scope := { kind := .function, names := [(PySem.Str.ofString "self", .local), (PySem.Str.ofString "name", .local)], isGenerator := false, isCoroutine := false, more := [] }
/-- what the written part says of Low, at C, and of its __init__, at fI -/
structure LowTxt (K : Frag) (mg : Str → Option Value) (C fI : Addr) : Prop where
  gC : mg "BadName" = some (.ref C)
  cls : ∃ nm q N bs bm sn sub ab col dd k0 k1 k2 k3 k5, K.lookup C = some (excClassObj nm q C N bs bm true sn sub ab col dd k0 k1 k2 k3 k5 "ValueError.__new__") ∧ refsVE bm = true
  sa : findIn K (.ref C) "__setattr__" = some (some (.builtin "object.__setattr__"))
  ga : findIn K (.ref C) "__getattribute__" = some (some (.builtin "BaseException.__getattribute__"))
  gg : findIn K (.ref C) "__getattr__" = some none
  noN : findIn K (.ref C) "name" = some none
  iC : findIn K (.ref C) "__init__" = some (some (.ref fI))
  tC : typeIn K (.ref fI) = some (.type "function")
  kC : keepIn K (.ref C) = true
  exC : subIn K (.ref C) (.type "BaseException") = some true
  tyC : typeIn K (.ref C) = some (.type "type")
  hdC : hasDictIn K C = true
  te : exmOne K (.ref C) (.ref C) = some true
  fn : ∃ (oc : Value) (od : Option Addr) (doc pm : Value) (an : Option Addr) (cdv ct : Value) (osl : Array (Option Value)) (p1 p2 q1 q2 q3 q4 : Pos),
    K.lookup fI = some ⟨oc, od, .func (fnOf "__init__" "BadName.__init__" (iA p1 p2) (iB q1 q2 q3 q4) iS .none .none doc pm an cdv ct), osl⟩ ∧ codeIn K cdv "BadName.__init__" = true
theorem one_size (v : Value) : [v].length ≤ sizeLine := by
  rw [sizeLine_eq]
  exact (by decide : 1 ≤ 16777216)
theorem ldC {M : Model} {s : Shared} {name : Str} {scope : Scope} {L a : Addr} {cd : Value} {m : Str → Option Value} {x : Str} {pos : Pos} {v : Value} {Q : Value → Shared → Prop} {A : Around} {E : Value → Shared → Prop} (hn : s.heap.Ns L m) (hv : m x = some v) (h : Q v s)
    (hk : scope.kind = .function := by rfl) (hl : (envOfC name scope L a cd).kindOf x = some .local := by rfl) (hd : (x == ("__debug__" : Str)) = false := by decide) :
    wpAny M A (eval (.Name x pos) (envOfC name scope L a cd)) Q E s := wpAny_Name (wpAny_loadName_local hk hl hn hv h) hd
/-- what __init__ leaves of a fresh exception at x -/
structure InitEnd (h h' : Heap) (x C dx t1 : Addr) (v : Value) : Prop where
  keep : ∀ b o, b ≠ x → h.get? b = some o → h'.get? b = some o
  obj : h'.get? x = some { cls := .ref C, dict := some dx, data := .fields #[.ref t1, .none, .none, .none, .bool false, .none] }
  dbig : h.objs.size ≤ dx
  dne : dx ≠ x
  ns : h'.Ns1 dx (fun y => if y = "name" then some v else none)
/-- a made Low -/
structure OwnMade (h h' : Heap) (e C d : Addr) (v : Value) : Prop where
  keep : ∀ b o, h.get? b = some o → h'.get? b = some o
  new : h.objs.size ≤ e
  obj : ∃ oe vs, h'.get? e = some oe ∧ oe.cls = .ref C ∧ oe.dict = some d ∧ oe.data = .fields vs ∧ vs[1]? = some .none
  dbig : h.objs.size ≤ d
  dne : d ≠ e
  ns : h'.Ns1 d (fun y => if y = "name" then some v else none)
section
variable {prog : Program} {w : World} {A : Around} {E : Value → Shared → Prop} {R : Result → Shared → Prop} {s : Shared} {K : Frag} {mg : Str → Option Value} {C fI : Addr}
theorem low_init (T : LowTxt K mg C fI) {x t0 : Addr} {v : Value} (X : K.In s.heap) (hlim : s.heap.NoLimit) (hx : s.heap.get? x = some (excO C t0)) (hnx : K.lookup x = none) (hroom : A.depth < recursionLimit)
    (hq : ∀ h' tk dx, InitEnd s.heap h' x C dx t0 v → R (.ok (.ret .none)) { s with heap := h', toks := tk }) :
    codeAny (model prog w) A (.call (.ref fI) ⟨[.ref x, v], []⟩) R s := by
  obtain ⟨oc, od, doc, pm, an, cdv, ct, osl, p1, p2, q1, q2, q3, q4, ho, hcd⟩ := T.fn
  obtain ⟨nm, q, N, bs, bm, sn, sub, ab, col, dd, k0, k1, k2, k3, k5, hC, hbm⟩ := T.cls
  have hcl : clsIn K C = some { name := nm, bases := bs, mro := .ref C :: bm, ns := N, qualname := q, hasDict := true, slotNames := sn, subclasses := sub, abstract := ab, collection := col, hasDel := false } := by unfold clsIn; rw [hC] <;> rfl
  refine Att.call_fn (binds := [("self", .ref x), ("name", v)]) X hlim ho hcd hroom (BindsTo.of_eq (by first | rfl | with_unfolding_all rfl)) (by first | rfl | decide | with_unfolding_all rfl) (fun s₁ IC => ?_) rfl rfl rfl
  obtain ⟨h₁, tk₁, rfl⟩ := IC.toInCall.same
  have k : ∀ b o, s.heap.get? b = some o → h₁.get? b = some o := IC.toInCall.keep
  have hn := IC.toInCall.ns
  have hxL : s.heap.objs.size ≠ x := Nat.ne_of_gt (Heap.lt_size hx)
  have X₁ : K.In h₁ := X.keeps k
  have hx₁ := k _ _ hx
  -- self.by = by
  show wpAny _ _ (execs _ _) _ _ _
  refine wpAny_execs_cons (plainObj_wpAny_Assign_Attribute ?_)
  refine ldC (v := v) hn (by first | rfl | with_unfolding_all rfl | kernel_rfl) (ldC (v := .ref x) hn (by first | rfl | with_unfolding_all rfl | kernel_rfl) ?_)
  refine set_plain X₁ (ox := excO C t0) (od := none) ⟨hx₁, rfl, rfl, trivial⟩ T.sa ?_
  refine exc_osa X₁ hx₁ hcl (show refsVE (.ref C :: bm) = true from hbm) rfl T.noN (fun h₃ tk₃ dx k₃ dn dne hx₃ hn₃ => ?_)
  show wpAny _ _ (execs _ _) _ _ _
  have z : s.heap.objs.size < h₁.objs.size := hn.lt
  exact wpAny_execs_nil (hq h₃ tk₃ dx ⟨fun b o hb e => k₃ b o hb (k b o e), hx₃, Nat.le_of_lt (Nat.lt_of_lt_of_le z dn), dne, hn₃⟩)
theorem low_made (T : LowTxt K mg C fI) {v : Value} (X : K.In s.heap) (hlim : s.heap.NoLimit) (hroom : A.depth + 1 < recursionLimit)
    (hq : ∀ h' tk e d, OwnMade s.heap h' e C d v → R (.ok (.ret (.ref e))) { s with heap := h', toks := tk }) :
    codeAny (model prog w) A (.call (.ref C) ⟨[v], []⟩) R s := by
  obtain ⟨nm, q, N, bs, bm, sn, sub, ab, col, dd, k0, k1, k2, k3, k5, hC, hbm⟩ := T.cls
  obtain ⟨hp, g, dr, tk, os⟩ := s
  have k : ∀ b o, hp.get? b = some o → ((hp.push (kdv_tup [v])).push (excO C hp.objs.size)).get? b = some o := fun b o e => Heap.get?_push_of_some _ (Heap.get?_push_of_some _ e)
  have hget : ((hp.push (kdv_tup [v])).push (excO C hp.objs.size)).get? (hp.objs.size + 1) = some (excO C hp.objs.size) := by heap_get
  have hnx : K.lookup (hp.objs.size + 1) = none := by
    cases e : K.lookup (hp.objs.size + 1) with
    | none => rfl
    | some o =>
      have z : hp.get? (hp.objs.size + 1) = some o := X _ _ e
      exact absurd (Nat.lt_of_succ_lt (Heap.lt_size z)) (Nat.lt_irrefl _)
  refine call_own F.excBase_ValueError (fun X => refsVE_contains X bm hbm) (X _ _ hC) (looks_findIn X T.iC) (fun self => bind_fn X self T.tC) (one_size v) ?_
  refine low_init (s := ⟨(hp.push (kdv_tup [v])).push (excO C hp.objs.size), g, dr, tk, os⟩) T (X.keeps k) (hlim.keeps k) hget hnx ?_ fun h' tk' dx ⟨k', hx, dn, dne, hns⟩ => ?_
  · show A.depth + 1 < recursionLimit
    exact hroom
  · have old : ∀ b o, hp.get? b = some o → h'.get? b = some o := fun b o e => k' b o (Nat.ne_of_lt (Nat.lt_succ_of_lt (Heap.lt_size e))) (k b o e)
    have z : hp.objs.size + 1 + 1 ≤ dx := by
      first
        | (simpa only [Heap.size_push] using dn)
        | exact dn
        | (have q := dn; rw [Heap.size_push, Heap.size_push] at q; exact q)
    exact ⟨rfl, hq h' tk' (hp.objs.size + 1) dx ⟨old, Nat.le_succ _, ⟨_, _, hx, rfl, rfl, rfl, rfl⟩, Nat.le_trans (Nat.le_trans (Nat.le_succ _) (Nat.le_succ _)) z, dne, hns⟩⟩
theorem low_initK (T : LowTxt K mg C fI) {x t0 : Addr} {v : Value} (X : K.In s.heap) (hlim : s.heap.NoLimit) (hx : s.heap.get? x = some (excO C t0)) (hnx : K.lookup x = none) (hroom : A.depth < recursionLimit)
    (hq : ∀ h' tk dx, InitEnd s.heap h' x C dx t0 v → R (.ok (.ret .none)) { s with heap := h', toks := tk }) :
    codeAny (model prog w) A (.call (.ref fI) ⟨[.ref x], [("name", v)]⟩) R s := by
  obtain ⟨oc, od, doc, pm, an, cdv, ct, osl, p1, p2, q1, q2, q3, q4, ho, hcd⟩ := T.fn
  obtain ⟨nm, q, N, bs, bm, sn, sub, ab, col, dd, k0, k1, k2, k3, k5, hC, hbm⟩ := T.cls
  have hcl : clsIn K C = some { name := nm, bases := bs, mro := .ref C :: bm, ns := N, qualname := q, hasDict := true, slotNames := sn, subclasses := sub, abstract := ab, collection := col, hasDel := false } := by unfold clsIn; rw [hC] <;> rfl
  refine Att.call_fn (binds := [("self", .ref x), ("name", v)]) X hlim ho hcd hroom (BindsTo.of_eq (by first | rfl | with_unfolding_all rfl)) (by first | rfl | decide | with_unfolding_all rfl) (fun s₁ IC => ?_) rfl rfl rfl
  obtain ⟨h₁, tk₁, rfl⟩ := IC.toInCall.same
  have k : ∀ b o, s.heap.get? b = some o → h₁.get? b = some o := IC.toInCall.keep
  have hn := IC.toInCall.ns
  have hxL : s.heap.objs.size ≠ x := Nat.ne_of_gt (Heap.lt_size hx)
  have X₁ : K.In h₁ := X.keeps k
  have hx₁ := k _ _ hx
  -- self.by = by
  show wpAny _ _ (execs _ _) _ _ _
  refine wpAny_execs_cons (plainObj_wpAny_Assign_Attribute ?_)
  refine ldC (v := v) hn (by first | rfl | with_unfolding_all rfl | kernel_rfl) (ldC (v := .ref x) hn (by first | rfl | with_unfolding_all rfl | kernel_rfl) ?_)
  refine set_plain X₁ (ox := excO C t0) (od := none) ⟨hx₁, rfl, rfl, trivial⟩ T.sa ?_
  refine exc_osa X₁ hx₁ hcl (show refsVE (.ref C :: bm) = true from hbm) rfl T.noN (fun h₃ tk₃ dx k₃ dn dne hx₃ hn₃ => ?_)
  show wpAny _ _ (execs _ _) _ _ _
  have z : s.heap.objs.size < h₁.objs.size := hn.lt
  exact wpAny_execs_nil (hq h₃ tk₃ dx ⟨fun b o hb e => k₃ b o hb (k b o e), hx₃, Nat.le_of_lt (Nat.lt_of_lt_of_le z dn), dne, hn₃⟩)
theorem low_madeK (T : LowTxt K mg C fI) {v : Value} (X : K.In s.heap) (hlim : s.heap.NoLimit) (hroom : A.depth + 1 < recursionLimit)
    (hq : ∀ h' tk e d, OwnMade s.heap h' e C d v → R (.ok (.ret (.ref e))) { s with heap := h', toks := tk }) :
    codeAny (model prog w) A (.call (.ref C) ⟨[], [("name", v)]⟩) R s := by
  obtain ⟨nm, q, N, bs, bm, sn, sub, ab, col, dd, k0, k1, k2, k3, k5, hC, hbm⟩ := T.cls
  obtain ⟨hp, g, dr, tk, os⟩ := s
  have k : ∀ b o, hp.get? b = some o → ((hp.push (kdv_tup [])).push (excO C hp.objs.size)).get? b = some o := fun b o e => Heap.get?_push_of_some _ (Heap.get?_push_of_some _ e)
  have hget : ((hp.push (kdv_tup [])).push (excO C hp.objs.size)).get? (hp.objs.size + 1) = some (excO C hp.objs.size) := by heap_get
  have hnx : K.lookup (hp.objs.size + 1) = none := by
    cases e : K.lookup (hp.objs.size + 1) with
    | none => rfl
    | some o =>
      have z : hp.get? (hp.objs.size + 1) = some o := X _ _ e
      exact absurd (Nat.lt_of_succ_lt (Heap.lt_size z)) (Nat.lt_irrefl _)
  refine call_kw F.excBase_ValueError (fun X => refsVE_contains X bm hbm) (X _ _ hC) (looks_findIn X T.iC) (fun self => bind_fn X self T.tC) ?_
  refine low_initK (s := ⟨(hp.push (kdv_tup [])).push (excO C hp.objs.size), g, dr, tk, os⟩) T (X.keeps k) (hlim.keeps k) hget hnx ?_ fun h' tk' dx ⟨k', hx, dn, dne, hns⟩ => ?_
  · show A.depth + 1 < recursionLimit
    exact hroom
  · have old : ∀ b o, hp.get? b = some o → h'.get? b = some o := fun b o e => k' b o (Nat.ne_of_lt (Nat.lt_succ_of_lt (Heap.lt_size e))) (k b o e)
    have z : hp.objs.size + 1 + 1 ≤ dx := by
      first
        | (simpa only [Heap.size_push] using dn)
        | exact dn
        | (have q := dn; rw [Heap.size_push, Heap.size_push] at q; exact q)
    exact ⟨rfl, hq h' tk' (hp.objs.size + 1) dx ⟨old, Nat.le_succ _, ⟨_, _, hx, rfl, rfl, rfl, rfl⟩, Nat.le_trans (Nat.le_trans (Nat.le_succ _) (Nat.le_succ _)) z, dne, hns⟩⟩
end
end ErrBadName
end PySem
namespace L2
open PySem PySem.Spec PyProof.Rows
theorem relO_low_BadName {v : V} {v' : Value} (r : RelV v v') (f : Str) : RelO (List.lookup f [(("name" : Str), v)]) (if f = "name" then some v' else none) := by
  by_cases hw : f = "name"
  · subst hw
    rw [if_pos rfl]
    have q : List.lookup ("name" : Str) [(("name" : Str), v)] = some v := by simp [List.lookup]
    rw [q]
    exact r
  · rw [if_neg hw]
    have qw : (f == ("name" : Str)) = false := by simpa using hw
    have q2 : List.lookup f [(("name" : Str), v)] = none := by simp [List.lookup, qw]
    rw [q2]
    trivial
section
variable {X : Cx} {C fI : Addr}
/-- Low(e) -/
def tMkLow_BadName (C : Addr) (ta : TA) : St → Hp → XK → Prop := fun σ H Q => ta σ H fun vs H1 => ∃ v, vs = [v] ∧ ∀ d, H1 d = none → Q (.ref C) (some d) (upd H1 d (.xd [(("name" : Str), v)]))
theorem pmk_low_BadName {a : Expr} {ta : TA} {p pos : Pos} {k : Nat} (T : PySem.ErrBadName.LowTxt X.K X.mg C fI) (hr : Room k X.A) (ha : PA X [a] ta) (hg : Gl X "BadName" := by rfl)
    (he : starEach (a :: []) X.env = (false, eval a X.env) :: starEach [] X.env := by rfl) (hpl : (backTo pos (starEach [] X.env)).any (·.1) = false := by rfl) :
    PMk X (.Call (.Name "BadName" p) [a] [] pos) (tMkLow_BadName C ta) := by
  intro pins s σ H Q I h
  refine wpAny_Call_Name_kw (ld_glob I hg T.gC ?_)
  refine PySem.W.callWith_K (h₀ := X.base) I.ok.mod.kin T.kC (thn (ha.run pos pins s σ H _ I h) fun us s1 hh => ?_) he hpl
  obtain ⟨vs, H1, I1, r1, v, ev, q1⟩ := hh
  subst ev
  refine ⟨I1.kIn, ?_⟩
  cases r1 with
  | cons rv rn =>
    rename_i v' us'
    cases rn
    show wpAny _ _ (call (.ref C) [v']) _ _ _
    have hlim := I1.nolimit
    obtain ⟨hp, g, dr, tk, os⟩ := s1
    refine wpAny_call (PySem.ErrBadName.low_made T I1.kIn hlim (by have := hr.dp; omega) fun h' tk' e d M => ?_)
    show MkP X pins σ Q (.ref e) ⟨h', g, dr, tk', os⟩
    obtain ⟨oe, fv, hoe, hc, hd, hdat, h1⟩ := M.obj
    have hns := M.ns
    obtain ⟨G', g1, g2⟩ := restrict h' fun b => decide (b ≠ e)
    have gk : ∀ b, b ≠ e → G'.get? b = h'.get? b := fun b hb => g1 b (decide_eq_true hb)
    have ge : G'.get? e = none := g2 e (by simp)
    have old : ∀ b o, hp.get? b = some o → G'.get? b = some o := fun b o q => (gk b (Nat.ne_of_lt (Nat.lt_of_lt_of_le (Heap.lt_size q) M.new))).trans (M.keep b o q)
    have ob : ObjOk X.prog X.w (upd H1 d (.xd [(("name" : Str), v)])) G' d (.xd [(("name" : Str), v)]) :=
      ⟨_, hns.at (fun o q => (gk d M.dne).trans q), fun f => relO_low_BadName rv f⟩
    have J : Inv X pins σ (upd H1 d (.xd [(("name" : Str), v)])) ⟨G', g, dr, tk', os⟩ := I1.laid (t' := tk') old M.dbig ob
    refine ⟨e, oe, fv, ⟨G', g, dr, tk', os⟩, _, .ref C, some d, rfl, J, fun b o q => ?_, ge, hoe, ⟨hc, hd⟩, hdat, h1, ?_, rfl, I1.bare, raises_own T.exC T.tyC, q1 d (I1.hok.fresh M.dbig)⟩
    · by_cases hb : b = e
      · have q' : G'.get? b = some o := q
        rw [hb, ge] at q'; cases q'
      · exact (gk b hb).symm.trans q
    · rw [upd_ne (Ne.symm M.dne)]
      exact I1.hok.fresh M.new
/-- raise Low(e) -/
def tRaiseLow_BadName (C : Addr) (W : WX) (ta : TA) : TS := fun _ σ H => tMkLow_BadName C ta σ H fun cls d H' => W cls d σ H'
theorem ps_raiseLow_BadName {a : Expr} {ta : TA} {W : WX} {p pos pos2 : Pos} {k : Nat} (hc : X.calm = true) (T : PySem.ErrBadName.LowTxt X.K X.mg C fI) (hr : Room k X.A) (tk : Takes X W) (ha : PA X [a] ta) (hg : Gl X "BadName" := by rfl)
    (he : starEach (a :: []) X.env = (false, eval a X.env) :: starEach [] X.env := by rfl) (hpl : (backTo pos (starEach [] X.env)).any (·.1) = false := by rfl) :
    PS X (.Raise (some (.Call (.Name "BadName" p) [a] [] pos)) none pos2) (tRaiseLow_BadName C W ta) := ps_raise hc tk (pmk_low_BadName T hr ha hg he hpl)
/-- C(f = e).f -/
theorem pe_namk_BadName {e : Expr} {te : TE} {p kp pos pos2 : Pos} {k : Nat} (T : PySem.ErrBadName.LowTxt X.K X.mg C fI) (hr : Room k X.A) (he : PE X e te) (hg : Gl X "BadName" := by rfl)
    (hall : (backToKw pos (keywordEach [⟨some "name", e, kp⟩] X.env)).all (·.1.isSome) = true := by rfl) (hks : (backToKw pos (keywordEach [⟨some "name", e, kp⟩] X.env)).filterMap (·.1) = [("name" : Str)] := by rfl)
    (hpl : ((backTo pos (starEach [] X.env)).any (·.1) || (backToKw pos (keywordEach [⟨some "name", e, kp⟩] X.env)).any (·.1.isNone)) = false := by rfl)
    (hb : attributeBase (.Call (.Name "BadName" p) [] [⟨some "name", e, kp⟩] pos) "name" X.env (eval (.Call (.Name "BadName" p) [] [⟨some "name", e, kp⟩] pos) X.env) = eval (.Call (.Name "BadName" p) [] [⟨some "name", e, kp⟩] pos) X.env := by rfl) :
    PE X (.Attribute (.Call (.Name "BadName" p) [] [⟨some "name", e, kp⟩] pos) "name" pos2) te := by
  refine ⟨fun pins s σ H Q I h => ?_⟩
  refine attr_of hb ?_
  refine wpAny_Call_Name_kw (ld_glob I hg T.gC ?_)
  refine PySem.W.callWith_KW0 (h₀ := X.base) I.ok.mod.kin T.kC hall (thn ((pk_one he).run pos pins s σ H (fun zs H2 => match zs with | [v] => Q v H2 | _ => False) I h) fun us s1 hh => ?_) hpl
  obtain ⟨vs, H1, I1, r1, q1⟩ := hh
  refine ⟨I1.kIn, ?_⟩
  rw [hks]
  match vs, us, r1, q1 with
  | [v], [v'], .cons rv .nil, q1 =>
    have hlim := I1.nolimit
    obtain ⟨hp, g, dr, tk, os⟩ := s1
    refine wpAny_call (PySem.ErrBadName.low_madeK T I1.kIn hlim (by have := hr.dp; omega) fun h' tk' e d M => ?_)
    show wpAny _ _ (getAttr (.ref e) "name" true) _ _ ⟨h', g, dr, tk', os⟩
    obtain ⟨oe, fv, hoe, hc, hd, hdat, h1⟩ := M.obj
    obtain ⟨od, hod, hl⟩ := lookIn_ns M.ns
    have J : PySem.W.InstAt h' e oe C (some od) := ⟨hoe, hc, by unfold PySem.W.notCls; rw [hdat] <;> rfl, by rw [hd]; exact hod⟩
    have I2 : Inv X pins σ H1 ⟨h', g, dr, tk', os⟩ := I1.kept (t' := tk') M.keep
    exact HandSPX.exc_get I2.kIn J T.ga T.gg T.exC (PySem.W.findObj_own T.hdC T.noN rfl (by rw [hl, if_pos rfl])) (handed_of rv) ⟨v, H1, I2.tok _, rv, q1⟩
end
end L2
namespace PySem
namespace ErrBadKey
open PySem.W PySem.Calls PyProof.Rows PySem.HandSPX
def iA (p1 p2 : Pos) : Arguments := { posonlyargs := [], args := [{ arg := "self", annotation := none, pos := p1 }, { arg := "key", annotation := none, pos := p2 }], vararg := none, kwonlyargs := [], kw_defaults := [], kwarg := none, defaults := [] }
def iB (q1 q2 q3 q4 : Pos) : List Stmt := [.Assign [.Attribute (.Name "self" q1) "key" q2] (.Name "key" q3) q4]
def iS : Scope := { kind := .function, names := [(PySem.Str.ofString "self", .local), (PySem.Str.ofString "key", .local)], isGenerator := false, isCoroutine := false, more := [] }
/-- what the written part says of Low, at C, and of its __init__, at fI -/
structure LowTxt (K : Frag) (mg : Str → Option Value) (C fI : Addr) : Prop where
  gC : mg "BadKey" = some (.ref C)
  cls : ∃ nm q N bs bm sn sub ab col dd k0 k1 k2 k3 k5, K.lookup C = some (excClassObj nm q C N bs bm true sn sub ab col dd k0 k1 k2 k3 k5 "ValueError.__new__") ∧ refsVE bm = true
  sa : findIn K (.ref C) "__setattr__" = some (some (.builtin "object.__setattr__"))
  ga : findIn K (.ref C) "__getattribute__" = some (some (.builtin "BaseException.__getattribute__"))
  gg : findIn K (.ref C) "__getattr__" = some none
  noN : findIn K (.ref C) "key" = some none
  iC : findIn K (.ref C) "__init__" = some (some (.ref fI))
  tC : typeIn K (.ref fI) = some (.type "function")
  kC : keepIn K (.ref C) = true
  exC : subIn K (.ref C) (.type "BaseException") = some true
  tyC : typeIn K (.ref C) = some (.type "type")
  hdC : hasDictIn K C = true
  te : exmOne K (.ref C) (.ref C) = some true
  fn : ∃ (oc : Value) (od : Option Addr) (doc pm : Value) (an : Option Addr) (cdv ct : Value) (osl : Array (Option Value)) (p1 p2 q1 q2 q3 q4 : Pos),
    K.lookup fI = some ⟨oc, od, .func (fnOf "__init__" "BadKey.__init__" (iA p1 p2) (iB q1 q2 q3 q4) iS .none .none doc pm an cdv ct), osl⟩ ∧ codeIn K cdv "BadKey.__init__" = true
theorem one_size (v : Value) : [v].length ≤ sizeLine := by
  rw [sizeLine_eq]
  exact (by decide : 1 ≤ 16777216)
theorem ldC {M : Model} {s : Shared} {name : Str} {scope : Scope} {L a : Addr} {cd : Value} {m : Str → Option Value} {x : Str} {pos : Pos} {v : Value} {Q : Value → Shared → Prop} {A : Around} {E : Value → Shared → Prop} (hn : s.heap.Ns L m) (hv : m x = some v) (h : Q v s)
    (hk : scope.kind = .function := by rfl) (hl : (envOfC name scope L a cd).kindOf x = some .local := by rfl) (hd : (x == ("__debug__" : Str)) = false := by decide) :
    wpAny M A (eval (.Name x pos) (envOfC name scope L a cd)) Q E s := wpAny_Name (wpAny_loadName_local hk hl hn hv h) hd
/-- what __init__ leaves of a fresh exception at x -/
structure InitEnd (h h' : Heap) (x C dx t1 : Addr) (v : Value) : Prop where
  keep : ∀ b o, b ≠ x → h.get? b = some o → h'.get? b = some o
  obj : h'.get? x = some { cls := .ref C, dict := some dx, data := .fields #[.ref t1, .none, .none, .none, .bool false, .none] }
  dbig : h.objs.size ≤ dx
  dne : dx ≠ x
  ns : h'.Ns1 dx (fun y => if y = "key" then some v else none)
/-- a made Low -/
structure OwnMade (h h' : Heap) (e C d : Addr) (v : Value) : Prop where
  keep : ∀ b o, h.get? b = some o → h'.get? b = some o
  new : h.objs.size ≤ e
  obj : ∃ oe vs, h'.get? e = some oe ∧ oe.cls = .ref C ∧ oe.dict = some d ∧ oe.data = .fields vs ∧ vs[1]? = some .none
  dbig : h.objs.size ≤ d
  dne : d ≠ e
  ns : h'.Ns1 d (fun y => if y = "key" then some v else none)
section
variable {prog : Program} {w : World} {A : Around} {E : Value → Shared → Prop} {R : Result → Shared → Prop} {s : Shared} {K : Frag} {mg : Str → Option Value} {C fI : Addr}
theorem low_init (T : LowTxt K mg C fI) {x t0 : Addr} {v : Value} (X : K.In s.heap) (hlim : s.heap.NoLimit) (hx : s.heap.get? x = some (excO C t0)) (hnx : K.lookup x = none) (hroom : A.depth < recursionLimit)
    (hq : ∀ h' tk dx, InitEnd s.heap h' x C dx t0 v → R (.ok (.ret .none)) { s with heap := h', toks := tk }) :
    codeAny (model prog w) A (.call (.ref fI) ⟨[.ref x, v], []⟩) R s := by
  obtain ⟨oc, od, doc, pm, an, cdv, ct, osl, p1, p2, q1, q2, q3, q4, ho, hcd⟩ := T.fn
  obtain ⟨nm, q, N, bs, bm, sn, sub, ab, col, dd, k0, k1, k2, k3, k5, hC, hbm⟩ := T.cls
  have hcl : clsIn K C = some { name := nm, bases := bs, mro := .ref C :: bm, ns := N, qualname := q, hasDict := true, slotNames := sn, subclasses := sub, abstract := ab, collection := col, hasDel := false } := by unfold clsIn; rw [hC] <;> rfl
  refine Att.call_fn (binds := [("self", .ref x), ("key", v)]) X hlim ho hcd hroom (BindsTo.of_eq (by first | rfl | with_unfolding_all rfl)) (by first | rfl | decide | with_unfolding_all rfl) (fun s₁ IC => ?_) rfl rfl rfl
  obtain ⟨h₁, tk₁, rfl⟩ := IC.toInCall.same
  have k : ∀ b o, s.heap.get? b = some o → h₁.get? b = some o := IC.toInCall.keep
  have hn := IC.toInCall.ns
  have hxL : s.heap.objs.size ≠ x := Nat.ne_of_gt (Heap.lt_size hx)
  have X₁ : K.In h₁ := X.keeps k
  have hx₁ := k _ _ hx
  -- self.by = by
  show wpAny _ _ (execs _ _) _ _ _
  refine wpAny_execs_cons (plainObj_wpAny_Assign_Attribute ?_)
  refine ldC (v := v) hn (by first | rfl | with_unfolding_all rfl | kernel_rfl) (ldC (v := .ref x) hn (by first | rfl | with_unfolding_all rfl | kernel_rfl) ?_)
  refine set_plain X₁ (ox := excO C t0) (od := none) ⟨hx₁, rfl, rfl, trivial⟩ T.sa ?_
  refine exc_osa X₁ hx₁ hcl (show refsVE (.ref C :: bm) = true from hbm) rfl T.noN (fun h₃ tk₃ dx k₃ dn dne hx₃ hn₃ => ?_)
  show wpAny _ _ (execs _ _) _ _ _
  have z : s.heap.objs.size < h₁.objs.size := hn.lt
  exact wpAny_execs_nil (hq h₃ tk₃ dx ⟨fun b o hb e => k₃ b o hb (k b o e), hx₃, Nat.le_of_lt (Nat.lt_of_lt_of_le z dn), dne, hn₃⟩)
theorem low_made (T : LowTxt K mg C fI) {v : Value} (X : K.In s.heap) (hlim : s.heap.NoLimit) (hroom : A.depth + 1 < recursionLimit)
    (hq : ∀ h' tk e d, OwnMade s.heap h' e C d v → R (.ok (.ret (.ref e))) { s with heap := h', toks := tk }) :
    codeAny (model prog w) A (.call (.ref C) ⟨[v], []⟩) R s := by
  obtain ⟨nm, q, N, bs, bm, sn, sub, ab, col, dd, k0, k1, k2, k3, k5, hC, hbm⟩ := T.cls
  obtain ⟨hp, g, dr, tk, os⟩ := s
  have k : ∀ b o, hp.get? b = some o → ((hp.push (kdv_tup [v])).push (excO C hp.objs.size)).get? b = some o := fun b o e => Heap.get?_push_of_some _ (Heap.get?_push_of_some _ e)
  have hget : ((hp.push (kdv_tup [v])).push (excO C hp.objs.size)).get? (hp.objs.size + 1) = some (excO C hp.objs.size) := by heap_get
  have hnx : K.lookup (hp.objs.size + 1) = none := by
    cases e : K.lookup (hp.objs.size + 1) with
    | none => rfl
    | some o =>
      have z : hp.get? (hp.objs.size + 1) = some o := X _ _ e
      exact absurd (Nat.lt_of_succ_lt (Heap.lt_size z)) (Nat.lt_irrefl _)
  refine call_own F.excBase_ValueError (fun X => refsVE_contains X bm hbm) (X _ _ hC) (looks_findIn X T.iC) (fun self => bind_fn X self T.tC) (one_size v) ?_
  refine low_init (s := ⟨(hp.push (kdv_tup [v])).push (excO C hp.objs.size), g, dr, tk, os⟩) T (X.keeps k) (hlim.keeps k) hget hnx ?_ fun h' tk' dx ⟨k', hx, dn, dne, hns⟩ => ?_
  · show A.depth + 1 < recursionLimit
    exact hroom
  · have old : ∀ b o, hp.get? b = some o → h'.get? b = some o := fun b o e => k' b o (Nat.ne_of_lt (Nat.lt_succ_of_lt (Heap.lt_size e))) (k b o e)
    have z : hp.objs.size + 1 + 1 ≤ dx := by
      first
        | (simpa only [Heap.size_push] using dn)
        | exact dn
        | (have q := dn; rw [Heap.size_push, Heap.size_push] at q; exact q)
    exact ⟨rfl, hq h' tk' (hp.objs.size + 1) dx ⟨old, Nat.le_succ _, ⟨_, _, hx, rfl, rfl, rfl, rfl⟩, Nat.le_trans (Nat.le_trans (Nat.le_succ _) (Nat.le_succ _)) z, dne, hns⟩⟩
theorem low_initK (T : LowTxt K mg C fI) {x t0 : Addr} {v : Value} (X : K.In s.heap) (hlim : s.heap.NoLimit) (hx : s.heap.get? x = some (excO C t0)) (hnx : K.lookup x = none) (hroom : A.depth < recursionLimit)
    (hq : ∀ h' tk dx, InitEnd s.heap h' x C dx t0 v → R (.ok (.ret .none)) { s with heap := h', toks := tk }) :
    codeAny (model prog w) A (.call (.ref fI) ⟨[.ref x], [("key", v)]⟩) R s := by
  obtain ⟨oc, od, doc, pm, an, cdv, ct, osl, p1, p2, q1, q2, q3, q4, ho, hcd⟩ := T.fn
  obtain ⟨nm, q, N, bs, bm, sn, sub, ab, col, dd, k0, k1, k2, k3, k5, hC, hbm⟩ := T.cls
  have hcl : clsIn K C = some { name := nm, bases := bs, mro := .ref C :: bm, ns := N, qualname := q, hasDict := true, slotNames := sn, subclasses := sub, abstract := ab, collection := col, hasDel := false } := by unfold clsIn; rw [hC] <;> rfl
  refine Att.call_fn (binds := [("self", .ref x), ("key", v)]) X hlim ho hcd hroom (BindsTo.of_eq (by first | rfl | with_unfolding_all rfl)) (by first | rfl | decide | with_unfolding_all rfl) (fun s₁ IC => ?_) rfl rfl rfl
  obtain ⟨h₁, tk₁, rfl⟩ := IC.toInCall.same
  have k : ∀ b o, s.heap.get? b = some o → h₁.get? b = some o := IC.toInCall.keep
  have hn := IC.toInCall.ns
  have hxL : s.heap.objs.size ≠ x := Nat.ne_of_gt (Heap.lt_size hx)
  have X₁ : K.In h₁ := X.keeps k
  have hx₁ := k _ _ hx
  -- self.by = by
  show wpAny _ _ (execs _ _) _ _ _
  refine wpAny_execs_cons (plainObj_wpAny_Assign_Attribute ?_)
  refine ldC (v := v) hn (by first | rfl | with_unfolding_all rfl | kernel_rfl) (ldC (v := .ref x) hn (by first | rfl | with_unfolding_all rfl | kernel_rfl) ?_)
  refine set_plain X₁ (ox := excO C t0) (od := none) ⟨hx₁, rfl, rfl, trivial⟩ T.sa ?_
  refine exc_osa X₁ hx₁ hcl (show refsVE (.ref C :: bm) = true from hbm) rfl T.noN (fun h₃ tk₃ dx k₃ dn dne hx₃ hn₃ => ?_)
  show wpAny _ _ (execs _ _) _ _ _
  have z : s.heap.objs.size < h₁.objs.size := hn.lt
  exact wpAny_execs_nil (hq h₃ tk₃ dx ⟨fun b o hb e => k₃ b o hb (k b o e), hx₃, Nat.le_of_lt (Nat.lt_of_lt_of_le z dn), dne, hn₃⟩)
theorem low_madeK (T : LowTxt K mg C fI) {v : Value} (X : K.In s.heap) (hlim : s.heap.NoLimit) (hroom : A.depth + 1 < recursionLimit)
    (hq : ∀ h' tk e d, OwnMade s.heap h' e C d v → R (.ok (.ret (.ref e))) { s with heap := h', toks := tk }) :
    codeAny (model prog w) A (.call (.ref C) ⟨[], [("key", v)]⟩) R s := by
  obtain ⟨nm, q, N, bs, bm, sn, sub, ab, col, dd, k0, k1, k2, k3, k5, hC, hbm⟩ := T.cls
  obtain ⟨hp, g, dr, tk, os⟩ := s
  have k : ∀ b o, hp.get? b = some o → ((hp.push (kdv_tup [])).push (excO C hp.objs.size)).get? b = some o := fun b o e => Heap.get?_push_of_some _ (Heap.get?_push_of_some _ e)
  have hget : ((hp.push (kdv_tup [])).push (excO C hp.objs.size)).get? (hp.objs.size + 1) = some (excO C hp.objs.size) := by heap_get
  have hnx : K.lookup (hp.objs.size + 1) = none := by
    cases e : K.lookup (hp.objs.size + 1) with
    | none => rfl
    | some o =>
      have z : hp.get? (hp.objs.size + 1) = some o := X _ _ e
      exact absurd (Nat.lt_of_succ_lt (Heap.lt_size z)) (Nat.lt_irrefl _)
  refine call_kw F.excBase_ValueError (fun X => refsVE_contains X bm hbm) (X _ _ hC) (looks_findIn X T.iC) (fun self => bind_fn X self T.tC) ?_
  refine low_initK (s := ⟨(hp.push (kdv_tup [])).push (excO C hp.objs.size), g, dr, tk, os⟩) T (X.keeps k) (hlim.keeps k) hget hnx ?_ fun h' tk' dx ⟨k', hx, dn, dne, hns⟩ => ?_
  · show A.depth + 1 < recursionLimit
    exact hroom
  · have old : ∀ b o, hp.get? b = some o → h'.get? b = some o := fun b o e => k' b o (Nat.ne_of_lt (Nat.lt_succ_of_lt (Heap.lt_size e))) (k b o e)
    have z : hp.objs.size + 1 + 1 ≤ dx := by
      first
        | (simpa only [Heap.size_push] using dn)
        | exact dn
        | (have q := dn; rw [Heap.size_push, Heap.size_push] at q; exact q)
    exact ⟨rfl, hq h' tk' (hp.objs.size + 1) dx ⟨old, Nat.le_succ _, ⟨_, _, hx, rfl, rfl, rfl, rfl⟩, Nat.le_trans (Nat.le_trans (Nat.le_succ _) (Nat.le_succ _)) z, dne, hns⟩⟩
end
end ErrBadKey
end PySem
namespace L2
open PySem PySem.Spec PyProof.Rows
theorem relO_low_BadKey {v : V} {v' : Value} (r : RelV v v') (f : Str) : RelO (List.lookup f [(("key" : Str), v)]) (if f = "key" then some v' else none) := by
  by_cases hw : f = "key"
  · subst hw
    rw [if_pos rfl]
    have q : List.lookup ("key" : Str) [(("key" : Str), v)] = some v := by simp [List.lookup]
    rw [q]
    exact r
  · rw [if_neg hw]
    have qw : (f == ("key" : Str)) = false := by simpa using hw
    have q2 : List.lookup f [(("key" : Str), v)] = none := by simp [List.lookup, qw]
    rw [q2]
    trivial
section
variable {X : Cx} {C fI : Addr}
/-- Low(e) -/
def tMkLow_BadKey (C : Addr) (ta : TA) : St → Hp → XK → Prop := fun σ H Q => ta σ H fun vs H1 => ∃ v, vs = [v] ∧ ∀ d, H1 d = none → Q (.ref C) (some d) (upd H1 d (.xd [(("key" : Str), v)]))
theorem pmk_low_BadKey {a : Expr} {ta : TA} {p pos : Pos} {k : Nat} (T : PySem.ErrBadKey.LowTxt X.K X.mg C fI) (hr : Room k X.A) (ha : PA X [a] ta) (hg : Gl X "BadKey" := by rfl)
    (he : starEach (a :: []) X.env = (false, eval a X.env) :: starEach [] X.env := by rfl) (hpl : (backTo pos (starEach [] X.env)).any (·.1) = false := by rfl) :
    PMk X (.Call (.Name "BadKey" p) [a] [] pos) (tMkLow_BadKey C ta) := by
  intro pins s σ H Q I h
  refine wpAny_Call_Name_kw (ld_glob I hg T.gC ?_)
  refine PySem.W.callWith_K (h₀ := X.base) I.ok.mod.kin T.kC (thn (ha.run pos pins s σ H _ I h) fun us s1 hh => ?_) he hpl
  obtain ⟨vs, H1, I1, r1, v, ev, q1⟩ := hh
  subst ev
  refine ⟨I1.kIn, ?_⟩
  cases r1 with
  | cons rv rn =>
    rename_i v' us'
    cases rn
    show wpAny _ _ (call (.ref C) [v']) _ _ _
    have hlim := I1.nolimit
    obtain ⟨hp, g, dr, tk, os⟩ := s1
    refine wpAny_call (PySem.ErrBadKey.low_made T I1.kIn hlim (by have := hr.dp; omega) fun h' tk' e d M => ?_)
    show MkP X pins σ Q (.ref e) ⟨h', g, dr, tk', os⟩
    obtain ⟨oe, fv, hoe, hc, hd, hdat, h1⟩ := M.obj
    have hns := M.ns
    obtain ⟨G', g1, g2⟩ := restrict h' fun b => decide (b ≠ e)
    have gk : ∀ b, b ≠ e → G'.get? b = h'.get? b := fun b hb => g1 b (decide_eq_true hb)
    have ge : G'.get? e = none := g2 e (by simp)
    have old : ∀ b o, hp.get? b = some o → G'.get? b = some o := fun b o q => (gk b (Nat.ne_of_lt (Nat.lt_of_lt_of_le (Heap.lt_size q) M.new))).trans (M.keep b o q)
    have ob : ObjOk X.prog X.w (upd H1 d (.xd [(("key" : Str), v)])) G' d (.xd [(("key" : Str), v)]) :=
      ⟨_, hns.at (fun o q => (gk d M.dne).trans q), fun f => relO_low_BadKey rv f⟩
    have J : Inv X pins σ (upd H1 d (.xd [(("key" : Str), v)])) ⟨G', g, dr, tk', os⟩ := I1.laid (t' := tk') old M.dbig ob
    refine ⟨e, oe, fv, ⟨G', g, dr, tk', os⟩, _, .ref C, some d, rfl, J, fun b o q => ?_, ge, hoe, ⟨hc, hd⟩, hdat, h1, ?_, rfl, I1.bare, raises_own T.exC T.tyC, q1 d (I1.hok.fresh M.dbig)⟩
    · by_cases hb : b = e
      · have q' : G'.get? b = some o := q
        rw [hb, ge] at q'; cases q'
      · exact (gk b hb).symm.trans q
    · rw [upd_ne (Ne.symm M.dne)]
      exact I1.hok.fresh M.new
/-- raise Low(e) -/
def tRaiseLow_BadKey (C : Addr) (W : WX) (ta : TA) : TS := fun _ σ H => tMkLow_BadKey C ta σ H fun cls d H' => W cls d σ H'
theorem ps_raiseLow_BadKey {a : Expr} {ta : TA} {W : WX} {p pos pos2 : Pos} {k : Nat} (hc : X.calm = true) (T : PySem.ErrBadKey.LowTxt X.K X.mg C fI) (hr : Room k X.A) (tk : Takes X W) (ha : PA X [a] ta) (hg : Gl X "BadKey" := by rfl)
    (he : starEach (a :: []) X.env = (false, eval a X.env) :: starEach [] X.env := by rfl) (hpl : (backTo pos (starEach [] X.env)).any (·.1) = false := by rfl) :
    PS X (.Raise (some (.Call (.Name "BadKey" p) [a] [] pos)) none pos2) (tRaiseLow_BadKey C W ta) := ps_raise hc tk (pmk_low_BadKey T hr ha hg he hpl)
/-- C(f = e).f -/
theorem pe_namk_BadKey {e : Expr} {te : TE} {p kp pos pos2 : Pos} {k : Nat} (T : PySem.ErrBadKey.LowTxt X.K X.mg C fI) (hr : Room k X.A) (he : PE X e te) (hg : Gl X "BadKey" := by rfl)
    (hall : (backToKw pos (keywordEach [⟨some "key", e, kp⟩] X.env)).all (·.1.isSome) = true := by rfl) (hks : (backToKw pos (keywordEach [⟨some "key", e, kp⟩] X.env)).filterMap (·.1) = [("key" : Str)] := by rfl)
    (hpl : ((backTo pos (starEach [] X.env)).any (·.1) || (backToKw pos (keywordEach [⟨some "key", e, kp⟩] X.env)).any (·.1.isNone)) = false := by rfl)
    (hb : attributeBase (.Call (.Name "BadKey" p) [] [⟨some "key", e, kp⟩] pos) "key" X.env (eval (.Call (.Name "BadKey" p) [] [⟨some "key", e, kp⟩] pos) X.env) = eval (.Call (.Name "BadKey" p) [] [⟨some "key", e, kp⟩] pos) X.env := by rfl) :
    PE X (.Attribute (.Call (.Name "BadKey" p) [] [⟨some "key", e, kp⟩] pos) "key" pos2) te := by
  refine ⟨fun pins s σ H Q I h => ?_⟩
  refine attr_of hb ?_
  refine wpAny_Call_Name_kw (ld_glob I hg T.gC ?_)
  refine PySem.W.callWith_KW0 (h₀ := X.base) I.ok.mod.kin T.kC hall (thn ((pk_one he).run pos pins s σ H (fun zs H2 => match zs with | [v] => Q v H2 | _ => False) I h) fun us s1 hh => ?_) hpl
  obtain ⟨vs, H1, I1, r1, q1⟩ := hh
  refine ⟨I1.kIn, ?_⟩
  rw [hks]
  match vs, us, r1, q1 with
  | [v], [v'], .cons rv .nil, q1 =>
    have hlim := I1.nolimit
    obtain ⟨hp, g, dr, tk, os⟩ := s1
    refine wpAny_call (PySem.ErrBadKey.low_madeK T I1.kIn hlim (by have := hr.dp; omega) fun h' tk' e d M => ?_)
    show wpAny _ _ (getAttr (.ref e) "key" true) _ _ ⟨h', g, dr, tk', os⟩
    obtain ⟨oe, fv, hoe, hc, hd, hdat, h1⟩ := M.obj
    obtain ⟨od, hod, hl⟩ := lookIn_ns M.ns
    have J : PySem.W.InstAt h' e oe C (some od) := ⟨hoe, hc, by unfold PySem.W.notCls; rw [hdat] <;> rfl, by rw [hd]; exact hod⟩
    have I2 : Inv X pins σ H1 ⟨h', g, dr, tk', os⟩ := I1.kept (t' := tk') M.keep
    exact HandSPX.exc_get I2.kIn J T.ga T.gg T.exC (PySem.W.findObj_own T.hdC T.noN rfl (by rw [hl, if_pos rfl])) (handed_of rv) ⟨v, H1, I2.tok _, rv, q1⟩
end
end L2
namespace PySem
namespace ErrBadErrand
open PySem.W PySem.Calls PyProof.Rows PySem.HandSPX
def iA (p1 p2 : Pos) : Arguments := { posonlyargs := [], args := [{ arg := "self", annotation := none, pos := p1 }, { arg := "index", annotation := none, pos := p2 }], vararg := none, kwonlyargs := [], kw_defaults := [], kwarg := none, defaults := [] }
def iB (q1 q2 q3 q4 : Pos) : List Stmt := [.Assign [.Attribute (.Name "self" q1) "index" q2] (.Name "index" q3) q4]
def iS : Scope := { kind := .function, names := [(PySem.Str.ofString "self", .local), (PySem.Str.ofString "index", .local)], isGenerator := false, isCoroutine := false, more := [] }
/-- what the written part says of Low, at C, and of its __init__, at fI -/
structure LowTxt (K : Frag) (mg : Str → Option Value) (C fI : Addr) : Prop where
  gC : mg "BadErrand" = some (.ref C)
  cls : ∃ nm q N bs bm sn sub ab col dd k0 k1 k2 k3 k5, K.lookup C = some (excClassObj nm q C N bs bm true sn sub ab col dd k0 k1 k2 k3 k5 "ValueError.__new__") ∧ refsVE bm = true
  sa : findIn K (.ref C) "__setattr__" = some (some (.builtin "object.__setattr__"))
  ga : findIn K (.ref C) "__getattribute__" = some (some (.builtin "BaseException.__getattribute__"))
  gg : findIn K (.ref C) "__getattr__" = some none
  noN : findIn K (.ref C) "index" = some none
  iC : findIn K (.ref C) "__init__" = some (some (.ref fI))
  tC : typeIn K (.ref fI) = some (.type "function")
  kC : keepIn K (.ref C) = true
  exC : subIn K (.ref C) (.type "BaseException") = some true
  tyC : typeIn K (.ref C) = some (.type "type")
  hdC : hasDictIn K C = true
  te : exmOne K (.ref C) (.ref C) = some true
  fn : ∃ (oc : Value) (od : Option Addr) (doc pm : Value) (an : Option Addr) (cdv ct : Value) (osl : Array (Option Value)) (p1 p2 q1 q2 q3 q4 : Pos),
    K.lookup fI = some ⟨oc, od, .func (fnOf "__init__" "BadErrand.__init__" (iA p1 p2) (iB q1 q2 q3 q4) iS .none .none doc pm an cdv ct), osl⟩ ∧ codeIn K cdv "BadErrand.__init__" = true
theorem one_size (v : Value) : [v].length ≤ sizeLine := by
  rw [sizeLine_eq]
  exact (by decide : 1 ≤ 16777216)
theorem ldC {M : Model} {s : Shared} {name : Str} {scope : Scope} {L a : Addr} {cd : Value} {m : Str → Option Value} {x : Str} {pos : Pos} {v : Value} {Q : Value → Shared → Prop} {A : Around} {E : Value → Shared → Prop} (hn : s.heap.Ns L m) (hv : m x = some v) (h : Q v s)
    (hk : scope.kind = .function := by rfl) (hl : (envOfC name scope L a cd).kindOf x = some .local := by rfl) (hd : (x == ("__debug__" : Str)) = false := by decide) :
    wpAny M A (eval (.Name x pos) (envOfC name scope L a cd)) Q E s := wpAny_Name (wpAny_loadName_local hk hl hn hv h) hd
/-- what __init__ leaves of a fresh exception at x -/
structure InitEnd (h h' : Heap) (x C dx t1 : Addr) (v : Value) : Prop where
  keep : ∀ b o, b ≠ x → h.get? b = some o → h'.get? b = some o
  obj : h'.get? x = some { cls := .ref C, dict := some dx, data := .fields #[.ref t1, .none, .none, .none, .bool false, .none] }
  dbig : h.objs.size ≤ dx
  dne : dx ≠ x
  ns : h'.Ns1 dx (fun y => if y = "index" then some v else none)
/-- a made Low -/
structure OwnMade (h h' : Heap) (e C d : Addr) (v : Value) : Prop where
  keep : ∀ b o, h.get? b = some o → h'.get? b = some o
  new : h.objs.size ≤ e
  obj : ∃ oe vs, h'.get? e = some oe ∧ oe.cls = .ref C ∧ oe.dict = some d ∧ oe.data = .fields vs ∧ vs[1]? = some .none
  dbig : h.objs.size ≤ d
  dne : d ≠ e
  ns : h'.Ns1 d (fun y => if y = "index" then some v else none)
section
variable {prog : Program} {w : World} {A : Around} {E : Value → Shared → Prop} {R : Result → Shared → Prop} {s : Shared} {K : Frag} {mg : Str → Option Value} {C fI : Addr}
theorem low_init (T : LowTxt K mg C fI) {x t0 : Addr} {v : Value} (X : K.In s.heap) (hlim : s.heap.NoLimit) (hx : s.heap.get? x = some (excO C t0)) (hnx : K.lookup x = none) (hroom : A.depth < recursionLimit)
    (hq : ∀ h' tk dx, InitEnd s.heap h' x C dx t0 v → R (.ok (.ret .none)) { s with heap := h', toks := tk }) :
    codeAny (model prog w) A (.call (.ref fI) ⟨[.ref x, v], []⟩) R s := by
  obtain ⟨oc, od, doc, pm, an, cdv, ct, osl, p1, p2, q1, q2, q3, q4, ho, hcd⟩ := T.fn
  obtain ⟨nm, q, N, bs, bm, sn, sub, ab, col, dd, k0, k1, k2, k3, k5, hC, hbm⟩ := T.cls
  have hcl : clsIn K C = some { name := nm, bases := bs, mro := .ref C :: bm, ns := N, qualname := q, hasDict := true, slotNames := sn, subclasses := sub, abstract := ab, collection := col, hasDel := false } := by unfold clsIn; rw [hC] <;> rfl
  refine Att.call_fn (binds := [("self", .ref x), ("index", v)]) X hlim ho hcd hroom (BindsTo.of_eq (by first | rfl | with_unfolding_all rfl)) (by first | rfl | decide | with_unfolding_all rfl) (fun s₁ IC => ?_) rfl rfl rfl
  obtain ⟨h₁, tk₁, rfl⟩ := IC.toInCall.same
  have k : ∀ b o, s.heap.get? b = some o → h₁.get? b = some o := IC.toInCall.keep
  have hn := IC.toInCall.ns
  have hxL : s.heap.objs.size ≠ x := Nat.ne_of_gt (Heap.lt_size hx)
  have X₁ : K.In h₁ := X.keeps k
  have hx₁ := k _ _ hx
  -- self.by = by
  show wpAny _ _ (execs _ _) _ _ _
  refine wpAny_execs_cons (plainObj_wpAny_Assign_Attribute ?_)
  refine ldC (v := v) hn (by first | rfl | with_unfolding_all rfl | kernel_rfl) (ldC (v := .ref x) hn (by first | rfl | with_unfolding_all rfl | kernel_rfl) ?_)
  refine set_plain X₁ (ox := excO C t0) (od := none) ⟨hx₁, rfl, rfl, trivial⟩ T.sa ?_
  refine exc_osa X₁ hx₁ hcl (show refsVE (.ref C :: bm) = true from hbm) rfl T.noN (fun h₃ tk₃ dx k₃ dn dne hx₃ hn₃ => ?_)
  show wpAny _ _ (execs _ _) _ _ _
  have z : s.heap.objs.size < h₁.objs.size := hn.lt
  exact wpAny_execs_nil (hq h₃ tk₃ dx ⟨fun b o hb e => k₃ b o hb (k b o e), hx₃, Nat.le_of_lt (Nat.lt_of_lt_of_le z dn), dne, hn₃⟩)
theorem low_made (T : LowTxt K mg C fI) {v : Value} (X : K.In s.heap) (hlim : s.heap.NoLimit) (hroom : A.depth + 1 < recursionLimit)
    (hq : ∀ h' tk e d, OwnMade s.heap h' e C d v → R (.ok (.ret (.ref e))) { s with heap := h', toks := tk }) :
    codeAny (model prog w) A (.call (.ref C) ⟨[v], []⟩) R s := by
  obtain ⟨nm, q, N, bs, bm, sn, sub, ab, col, dd, k0, k1, k2, k3, k5, hC, hbm⟩ := T.cls
  obtain ⟨hp, g, dr, tk, os⟩ := s
  have k : ∀ b o, hp.get? b = some o → ((hp.push (kdv_tup [v])).push (excO C hp.objs.size)).get? b = some o := fun b o e => Heap.get?_push_of_some _ (Heap.get?_push_of_some _ e)
  have hget : ((hp.push (kdv_tup [v])).push (excO C hp.objs.size)).get? (hp.objs.size + 1) = some (excO C hp.objs.size) := by heap_get
  have hnx : K.lookup (hp.objs.size + 1) = none := by
    cases e : K.lookup (hp.objs.size + 1) with
    | none => rfl
    | some o =>
      have z : hp.get? (hp.objs.size + 1) = some o := X _ _ e
      exact absurd (Nat.lt_of_succ_lt (Heap.lt_size z)) (Nat.lt_irrefl _)
  refine call_own F.excBase_ValueError (fun X => refsVE_contains X bm hbm) (X _ _ hC) (looks_findIn X T.iC) (fun self => bind_fn X self T.tC) (one_size v) ?_
  refine low_init (s := ⟨(hp.push (kdv_tup [v])).push (excO C hp.objs.size), g, dr, tk, os⟩) T (X.keeps k) (hlim.keeps k) hget hnx ?_ fun h' tk' dx ⟨k', hx, dn, dne, hns⟩ => ?_
  · show A.depth + 1 < recursionLimit
    exact hroom
  · have old : ∀ b o, hp.get? b = some o → h'.get? b = some o := fun b o e => k' b o (Nat.ne_of_lt (Nat.lt_succ_of_lt (Heap.lt_size e))) (k b o e)
    have z : hp.objs.size + 1 + 1 ≤ dx := by
      first
        | (simpa only [Heap.size_push] using dn)
        | exact dn
        | (have q := dn; rw [Heap.size_push, Heap.size_push] at q; exact q)
    exact ⟨rfl, hq h' tk' (hp.objs.size + 1) dx ⟨old, Nat.le_succ _, ⟨_, _, hx, rfl, rfl, rfl, rfl⟩, Nat.le_trans (Nat.le_trans (Nat.le_succ _) (Nat.le_succ _)) z, dne, hns⟩⟩
theorem low_initK (T : LowTxt K mg C fI) {x t0 : Addr} {v : Value} (X : K.In s.heap) (hlim : s.heap.NoLimit) (hx : s.heap.get? x = some (excO C t0)) (hnx : K.lookup x = none) (hroom : A.depth < recursionLimit)
    (hq : ∀ h' tk dx, InitEnd s.heap h' x C dx t0 v → R (.ok (.ret .none)) { s with heap := h', toks := tk }) :
    codeAny (model prog w) A (.call (.ref fI) ⟨[.ref x], [("index", v)]⟩) R s := by
  obtain ⟨oc, od, doc, pm, an, cdv, ct, osl, p1, p2, q1, q2, q3, q4, ho, hcd⟩ := T.fn
  obtain ⟨nm, q, N, bs, bm, sn, sub, ab, col, dd, k0, k1, k2, k3, k5, hC, hbm⟩ := T.cls
  have hcl : clsIn K C = some { name := nm, bases := bs, mro := .ref C :: bm, ns := N, qualname := q, hasDict := true, slotNames := sn, subclasses := sub, abstract := ab, collection := col, hasDel := false } := by unfold clsIn; rw [hC] <;> rfl
  refine Att.call_fn (binds := [("self", .ref x), ("index", v)]) X hlim ho hcd hroom (BindsTo.of_eq (by first | rfl | with_unfolding_all rfl)) (by first | rfl | decide | with_unfolding_all rfl) (fun s₁ IC => ?_) rfl rfl rfl
  obtain ⟨h₁, tk₁, rfl⟩ := IC.toInCall.same
  have k : ∀ b o, s.heap.get? b = some o → h₁.get? b = some o := IC.toInCall.keep
  have hn := IC.toInCall.ns
  have hxL : s.heap.objs.size ≠ x := Nat.ne_of_gt (Heap.lt_size hx)
  have X₁ : K.In h₁ := X.keeps k
  have hx₁ := k _ _ hx
  -- self.by = by
  show wpAny _ _ (execs _ _) _ _ _
  refine wpAny_execs_cons (plainObj_wpAny_Assign_Attribute ?_)
  refine ldC (v := v) hn (by first | rfl | with_unfolding_all rfl | kernel_rfl) (ldC (v := .ref x) hn (by first | rfl | with_unfolding_all rfl | kernel_rfl) ?_)
  refine set_plain X₁ (ox := excO C t0) (od := none) ⟨hx₁, rfl, rfl, trivial⟩ T.sa ?_
  refine exc_osa X₁ hx₁ hcl (show refsVE (.ref C :: bm) = true from hbm) rfl T.noN (fun h₃ tk₃ dx k₃ dn dne hx₃ hn₃ => ?_)
  show wpAny _ _ (execs _ _) _ _ _
  have z : s.heap.objs.size < h₁.objs.size := hn.lt
  exact wpAny_execs_nil (hq h₃ tk₃ dx ⟨fun b o hb e => k₃ b o hb (k b o e), hx₃, Nat.le_of_lt (Nat.lt_of_lt_of_le z dn), dne, hn₃⟩)
theorem low_madeK (T : LowTxt K mg C fI) {v : Value} (X : K.In s.heap) (hlim : s.heap.NoLimit) (hroom : A.depth + 1 < recursionLimit)
    (hq : ∀ h' tk e d, OwnMade s.heap h' e C d v → R (.ok (.ret (.ref e))) { s with heap := h', toks := tk }) :
    codeAny (model prog w) A (.call (.ref C) ⟨[], [("index", v)]⟩) R s := by
  obtain ⟨nm, q, N, bs, bm, sn, sub, ab, col, dd, k0, k1, k2, k3, k5, hC, hbm⟩ := T.cls
  obtain ⟨hp, g, dr, tk, os⟩ := s
  have k : ∀ b o, hp.get? b = some o → ((hp.push (kdv_tup [])).push (excO C hp.objs.size)).get? b = some o := fun b o e => Heap.get?_push_of_some _ (Heap.get?_push_of_some _ e)
  have hget : ((hp.push (kdv_tup [])).push (excO C hp.objs.size)).get? (hp.objs.size + 1) = some (excO C hp.objs.size) := by heap_get
  have hnx : K.lookup (hp.objs.size + 1) = none := by
    cases e : K.lookup (hp.objs.size + 1) with
    | none => rfl
    | some o =>
      have z : hp.get? (hp.objs.size + 1) = some o := X _ _ e
      exact absurd (Nat.lt_of_succ_lt (Heap.lt_size z)) (Nat.lt_irrefl _)
  refine call_kw F.excBase_ValueError (fun X => refsVE_contains X bm hbm) (X _ _ hC) (looks_findIn X T.iC) (fun self => bind_fn X self T.tC) ?_
  refine low_initK (s := ⟨(hp.push (kdv_tup [])).push (excO C hp.objs.size), g, dr, tk, os⟩) T (X.keeps k) (hlim.keeps k) hget hnx ?_ fun h' tk' dx ⟨k', hx, dn, dne, hns⟩ => ?_
  · show A.depth + 1 < recursionLimit
    exact hroom
  · have old : ∀ b o, hp.get? b = some o → h'.get? b = some o := fun b o e => k' b o (Nat.ne_of_lt (Nat.lt_succ_of_lt (Heap.lt_size e))) (k b o e)
    have z : hp.objs.size + 1 + 1 ≤ dx := by
      first
        | (simpa only [Heap.size_push] using dn)
        | exact dn
        | (have q := dn; rw [Heap.size_push, Heap.size_push] at q; exact q)
    exact ⟨rfl, hq h' tk' (hp.objs.size + 1) dx ⟨old, Nat.le_succ _, ⟨_, _, hx, rfl, rfl, rfl, rfl⟩, Nat.le_trans (Nat.le_trans (Nat.le_succ _) (Nat.le_succ _)) z, dne, hns⟩⟩
end
end ErrBadErrand
end PySem
namespace L2
open PySem PySem.Spec PyProof.Rows
theorem relO_low_BadErrand {v : V} {v' : Value} (r : RelV v v') (f : Str) : RelO (List.lookup f [(("index" : Str), v)]) (if f = "index" then some v' else none) := by
  by_cases hw : f = "index"
  · subst hw
    rw [if_pos rfl]
    have q : List.lookup ("index" : Str) [(("index" : Str), v)] = some v := by simp [List.lookup]
    rw [q]
    exact r
  · rw [if_neg hw]
    have qw : (f == ("index" : Str)) = false := by simpa using hw
    have q2 : List.lookup f [(("index" : Str), v)] = none := by simp [List.lookup, qw]
    rw [q2]
    trivial
section
variable {X : Cx} {C fI : Addr}
/-- Low(e) -/
def tMkLow_BadErrand (C : Addr) (ta : TA) : St → Hp → XK → Prop := fun σ H Q => ta σ H fun vs H1 => ∃ v, vs = [v] ∧ ∀ d, H1 d = none → Q (.ref C) (some d) (upd H1 d (.xd [(("index" : Str), v)]))
theorem pmk_low_BadErrand {a : Expr} {ta : TA} {p pos : Pos} {k : Nat} (T : PySem.ErrBadErrand.LowTxt X.K X.mg C fI) (hr : Room k X.A) (ha : PA X [a] ta) (hg : Gl X "BadErrand" := by rfl)
    (he : starEach (a :: []) X.env = (false, eval a X.env) :: starEach [] X.env := by rfl) (hpl : (backTo pos (starEach [] X.env)).any (·.1) = false := by rfl) :
    PMk X (.Call (.Name "BadErrand" p) [a] [] pos) (tMkLow_BadErrand C ta) := by
  intro pins s σ H Q I h
  refine wpAny_Call_Name_kw (ld_glob I hg T.gC ?_)
  refine PySem.W.callWith_K (h₀ := X.base) I.ok.mod.kin T.kC (thn (ha.run pos pins s σ H _ I h) fun us s1 hh => ?_) he hpl
  obtain ⟨vs, H1, I1, r1, v, ev, q1⟩ := hh
  subst ev
  refine ⟨I1.kIn, ?_⟩
  cases r1 with
  | cons rv rn =>
    rename_i v' us'
    cases rn
    show wpAny _ _ (call (.ref C) [v']) _ _ _
    have hlim := I1.nolimit
    obtain ⟨hp, g, dr, tk, os⟩ := s1
    refine wpAny_call (PySem.ErrBadErrand.low_made T I1.kIn hlim (by have := hr.dp; omega) fun h' tk' e d M => ?_)
    show MkP X pins σ Q (.ref e) ⟨h', g, dr, tk', os⟩
    obtain ⟨oe, fv, hoe, hc, hd, hdat, h1⟩ := M.obj
    have hns := M.ns
    obtain ⟨G', g1, g2⟩ := restrict h' fun b => decide (b ≠ e)
    have gk : ∀ b, b ≠ e → G'.get? b = h'.get? b := fun b hb => g1 b (decide_eq_true hb)
    have ge : G'.get? e = none := g2 e (by simp)
    have old : ∀ b o, hp.get? b = some o → G'.get? b = some o := fun b o q => (gk b (Nat.ne_of_lt (Nat.lt_of_lt_of_le (Heap.lt_size q) M.new))).trans (M.keep b o q)
    have ob : ObjOk X.prog X.w (upd H1 d (.xd [(("index" : Str), v)])) G' d (.xd [(("index" : Str), v)]) :=
      ⟨_, hns.at (fun o q => (gk d M.dne).trans q), fun f => relO_low_BadErrand rv f⟩
    have J : Inv X pins σ (upd H1 d (.xd [(("index" : Str), v)])) ⟨G', g, dr, tk', os⟩ := I1.laid (t' := tk') old M.dbig ob
    refine ⟨e, oe, fv, ⟨G', g, dr, tk', os⟩, _, .ref C, some d, rfl, J, fun b o q => ?_, ge, hoe, ⟨hc, hd⟩, hdat, h1, ?_, rfl, I1.bare, raises_own T.exC T.tyC, q1 d (I1.hok.fresh M.dbig)⟩
    · by_cases hb : b = e
      · have q' : G'.get? b = some o := q
        rw [hb, ge] at q'; cases q'
      · exact (gk b hb).symm.trans q
    · rw [upd_ne (Ne.symm M.dne)]
      exact I1.hok.fresh M.new
/-- raise Low(e) -/
def tRaiseLow_BadErrand (C : Addr) (W : WX) (ta : TA) : TS := fun _ σ H => tMkLow_BadErrand C ta σ H fun cls d H' => W cls d σ H'
theorem ps_raiseLow_BadErrand {a : Expr} {ta : TA} {W : WX} {p pos pos2 : Pos} {k : Nat} (hc : X.calm = true) (T : PySem.ErrBadErrand.LowTxt X.K X.mg C fI) (hr : Room k X.A) (tk : Takes X W) (ha : PA X [a] ta) (hg : Gl X "BadErrand" := by rfl)
    (he : starEach (a :: []) X.env = (false, eval a X.env) :: starEach [] X.env := by rfl) (hpl : (backTo pos (starEach [] X.env)).any (·.1) = false := by rfl) :
    PS X (.Raise (some (.Call (.Name "BadErrand" p) [a] [] pos)) none pos2) (tRaiseLow_BadErrand C W ta) := ps_raise hc tk (pmk_low_BadErrand T hr ha hg he hpl)
/-- C(f = e).f -/
theorem pe_namk_BadErrand {e : Expr} {te : TE} {p kp pos pos2 : Pos} {k : Nat} (T : PySem.ErrBadErrand.LowTxt X.K X.mg C fI) (hr : Room k X.A) (he : PE X e te) (hg : Gl X "BadErrand" := by rfl)
    (hall : (backToKw pos (keywordEach [⟨some "index", e, kp⟩] X.env)).all (·.1.isSome) = true := by rfl) (hks : (backToKw pos (keywordEach [⟨some "index", e, kp⟩] X.env)).filterMap (·.1) = [("index" : Str)] := by rfl)
    (hpl : ((backTo pos (starEach [] X.env)).any (·.1) || (backToKw pos (keywordEach [⟨some "index", e, kp⟩] X.env)).any (·.1.isNone)) = false := by rfl)
    (hb : attributeBase (.Call (.Name "BadErrand" p) [] [⟨some "index", e, kp⟩] pos) "index" X.env (eval (.Call (.Name "BadErrand" p) [] [⟨some "index", e, kp⟩] pos) X.env) = eval (.Call (.Name "BadErrand" p) [] [⟨some "index", e, kp⟩] pos) X.env := by rfl) :
    PE X (.Attribute (.Call (.Name "BadErrand" p) [] [⟨some "index", e, kp⟩] pos) "index" pos2) te := by
  refine ⟨fun pins s σ H Q I h => ?_⟩
  refine attr_of hb ?_
  refine wpAny_Call_Name_kw (ld_glob I hg T.gC ?_)
  refine PySem.W.callWith_KW0 (h₀ := X.base) I.ok.mod.kin T.kC hall (thn ((pk_one he).run pos pins s σ H (fun zs H2 => match zs with | [v] => Q v H2 | _ => False) I h) fun us s1 hh => ?_) hpl
  obtain ⟨vs, H1, I1, r1, q1⟩ := hh
  refine ⟨I1.kIn, ?_⟩
  rw [hks]
  match vs, us, r1, q1 with
  | [v], [v'], .cons rv .nil, q1 =>
    have hlim := I1.nolimit
    obtain ⟨hp, g, dr, tk, os⟩ := s1
    refine wpAny_call (PySem.ErrBadErrand.low_madeK T I1.kIn hlim (by have := hr.dp; omega) fun h' tk' e d M => ?_)
    show wpAny _ _ (getAttr (.ref e) "index" true) _ _ ⟨h', g, dr, tk', os⟩
    obtain ⟨oe, fv, hoe, hc, hd, hdat, h1⟩ := M.obj
    obtain ⟨od, hod, hl⟩ := lookIn_ns M.ns
    have J : PySem.W.InstAt h' e oe C (some od) := ⟨hoe, hc, by unfold PySem.W.notCls; rw [hdat] <;> rfl, by rw [hd]; exact hod⟩
    have I2 : Inv X pins σ H1 ⟨h', g, dr, tk', os⟩ := I1.kept (t' := tk') M.keep
    exact HandSPX.exc_get I2.kIn J T.ga T.gg T.exC (PySem.W.findObj_own T.hdC T.noN rfl (by rw [hl, if_pos rfl])) (handed_of rv) ⟨v, H1, I2.tok _, rv, q1⟩
end
end L2
namespace PySem
namespace ErrBadOrder
open PySem.W PySem.Calls PyProof.Rows PySem.HandSPX
def iA (p1 p2 : Pos) : Arguments := { posonlyargs := [], args := [{ arg := "self", annotation := none, pos := p1 }, { arg := "name", annotation := none, pos := p2 }], vararg := none, kwonlyargs := [], kw_defaults := [], kwarg := none, defaults := [] }
def iB (q1 q2 q3 q4 : Pos) : List Stmt := [.Assign [.Attribute (.Name "self" q1) "name" q2] (.Name "name" q3) q4]
def iS : Scope := { kind := .function, names := [(PySem.Str.ofString "self", .local), (PySem.Str.ofString "name", .local)], isGenerator := false, isCoroutine := false, more := [] }
/-- what the written part says of Low, at C, and of its __init__, at fI -/
structure LowTxt (K : Frag) (mg : Str → Option Value) (C fI : Addr) : Prop where
  gC : mg "BadOrder" = some (.ref C)
  cls : ∃ nm q N bs bm sn sub ab col dd k0 k1 k2 k3 k5, K.lookup C = some (excClassObj nm q C N bs bm true sn sub ab col dd k0 k1 k2 k3 k5 "ValueError.__new__") ∧ refsVE bm = true
  sa : findIn K (.ref C) "__setattr__" = some (some (.builtin "object.__setattr__"))
  ga : findIn K (.ref C) "__getattribute__" = some (some (.builtin "BaseException.__getattribute__"))
  gg : findIn K (.ref C) "__getattr__" = some none
  noN : findIn K (.ref C) "name" = some none
  iC : findIn K (.ref C) "__init__" = some (some (.ref fI))
  tC : typeIn K (.ref fI) = some (.type "function")
  kC : keepIn K (.ref C) = true
  exC : subIn K (.ref C) (.type "BaseException") = some true
  tyC : typeIn K (.ref C) = some (.type "type")
  hdC : hasDictIn K C = true
  te : exmOne K (.ref C) (.ref C) = some true
  fn : ∃ (oc : Value) (od : Option Addr) (doc pm : Value) (an : Option Addr) (cdv ct : Value) (osl : Array (Option Value)) (p1 p2 q1 q2 q3 q4 : Pos),
    K.lookup fI = some ⟨oc, od, .func (fnOf "__init__" "BadOrder.__init__" (iA p1 p2) (iB q1 q2 q3 q4) iS .none .none doc pm an cdv ct), osl⟩ ∧ codeIn K cdv "BadOrder.__init__" = true
theorem one_size (v : Value) : [v].length ≤ sizeLine := by
  rw [sizeLine_eq]
  exact (by decide : 1 ≤ 16777216)
theorem ldC {M : Model} {s : Shared} {name : Str} {scope : Scope} {L a : Addr} {cd : Value} {m : Str → Option Value} {x : Str} {pos : Pos} {v : Value} {Q : Value → Shared → Prop} {A : Around} {E : Value → Shared → Prop} (hn : s.heap.Ns L m) (hv : m x = some v) (h : Q v s)
    (hk : scope.kind = .function := by rfl) (hl : (envOfC name scope L a cd).kindOf x = some .local := by rfl) (hd : (x == ("__debug__" : Str)) = false := by decide) :
    wpAny M A (eval (.Name x pos) (envOfC name scope L a cd)) Q E s := wpAny_Name (wpAny_loadName_local hk hl hn hv h) hd
/-- what __init__ leaves of a fresh exception at x -/
structure InitEnd (h h' : Heap) (x C dx t1 : Addr) (v : Value) : Prop where
  keep : ∀ b o, b ≠ x → h.get? b = some o → h'.get? b = some o
  obj : h'.get? x = some { cls := .ref C, dict := some dx, data := .fields #[.ref t1, .none, .none, .none, .bool false, .none] }
  dbig : h.objs.size ≤ dx
  dne : dx ≠ x
  ns : h'.Ns1 dx (fun y => if y = "name" then some v else none)
/-- a made Low -/
structure OwnMade (h h' : Heap) (e C d : Addr) (v : Value) : Prop where
  keep : ∀ b o, h.get? b = some o → h'.get? b = some o
  new : h.objs.size ≤ e
  obj : ∃ oe vs, h'.get? e = some oe ∧ oe.cls = .ref C ∧ oe.dict = some d ∧ oe.data = .fields vs ∧ vs[1]? = some .none
  dbig : h.objs.size ≤ d
  dne : d ≠ e
  ns : h'.Ns1 d (fun y => if y = "name" then some v else none)
section
variable {prog : Program} {w : World} {A : Around} {E : Value → Shared → Prop} {R : Result → Shared → Prop} {s : Shared} {K : Frag} {mg : Str → Option Value} {C fI : Addr}
theorem low_init (T : LowTxt K mg C fI) {x t0 : Addr} {v : Value} (X : K.In s.heap) (hlim : s.heap.NoLimit) (hx : s.heap.get? x = some (excO C t0)) (hnx : K.lookup x = none) (hroom : A.depth < recursionLimit)
    (hq : ∀ h' tk dx, InitEnd s.heap h' x C dx t0 v → R (.ok (.ret .none)) { s with heap := h', toks := tk }) :
    codeAny (model prog w) A (.call (.ref fI) ⟨[.ref x, v], []⟩) R s := by
  obtain ⟨oc, od, doc, pm, an, cdv, ct, osl, p1, p2, q1, q2, q3, q4, ho, hcd⟩ := T.fn
  obtain ⟨nm, q, N, bs, bm, sn, sub, ab, col, dd, k0, k1, k2, k3, k5, hC, hbm⟩ := T.cls
  have hcl : clsIn K C = some { name := nm, bases := bs, mro := .ref C :: bm, ns := N, qualname := q, hasDict := true, slotNames := sn, subclasses := sub, abstract := ab, collection := col, hasDel := false } := by unfold clsIn; rw [hC] <;> rfl
  refine Att.call_fn (binds := [("self", .ref x), ("name", v)]) X hlim ho hcd hroom (BindsTo.of_eq (by first | rfl | with_unfolding_all rfl)) (by first | rfl | decide | with_unfolding_all rfl) (fun s₁ IC => ?_) rfl rfl rfl
  obtain ⟨h₁, tk₁, rfl⟩ := IC.toInCall.same
  have k : ∀ b o, s.heap.get? b = some o → h₁.get? b = some o := IC.toInCall.keep
  have hn := IC.toInCall.ns
  have hxL : s.heap.objs.size ≠ x := Nat.ne_of_gt (Heap.lt_size hx)
  have X₁ : K.In h₁ := X.keeps k
  have hx₁ := k _ _ hx
  -- self.by = by
  show wpAny _ _ (execs _ _) _ _ _
  refine wpAny_execs_cons (plainObj_wpAny_Assign_Attribute ?_)
  refine ldC (v := v) hn (by first | rfl | with_unfolding_all rfl | kernel_rfl) (ldC (v := .ref x) hn (by first | rfl | with_unfolding_all rfl | kernel_rfl) ?_)
  refine set_plain X₁ (ox := excO C t0) (od := none) ⟨hx₁, rfl, rfl, trivial⟩ T.sa ?_
  refine exc_osa X₁ hx₁ hcl (show refsVE (.ref C :: bm) = true from hbm) rfl T.noN (fun h₃ tk₃ dx k₃ dn dne hx₃ hn₃ => ?_)
  show wpAny _ _ (execs _ _) _ _ _
  have z : s.heap.objs.size < h₁.objs.size := hn.lt
  exact wpAny_execs_nil (hq h₃ tk₃ dx ⟨fun b o hb e => k₃ b o hb (k b o e), hx₃, Nat.le_of_lt (Nat.lt_of_lt_of_le z dn), dne, hn₃⟩)
theorem low_made (T : LowTxt K mg C fI) {v : Value} (X : K.In s.heap) (hlim : s.heap.NoLimit) (hroom : A.depth + 1 < recursionLimit)
    (hq : ∀ h' tk e d, OwnMade s.heap h' e C d v → R (.ok (.ret (.ref e))) { s with heap := h', toks := tk }) :
    codeAny (model prog w) A (.call (.ref C) ⟨[v], []⟩) R s := by
  obtain ⟨nm, q, N, bs, bm, sn, sub, ab, col, dd, k0, k1, k2, k3, k5, hC, hbm⟩ := T.cls
  obtain ⟨hp, g, dr, tk, os⟩ := s
  have k : ∀ b o, hp.get? b = some o → ((hp.push (kdv_tup [v])).push (excO C hp.objs.size)).get? b = some o := fun b o e => Heap.get?_push_of_some _ (Heap.get?_push_of_some _ e)
  have hget : ((hp.push (kdv_tup [v])).push (excO C hp.objs.size)).get? (hp.objs.size + 1) = some (excO C hp.objs.size) := by heap_get
  have hnx : K.lookup (hp.objs.size + 1) = none := by
    cases e : K.lookup (hp.objs.size + 1) with
    | none => rfl
    | some o =>
      have z : hp.get? (hp.objs.size + 1) = some o := X _ _ e
      exact absurd (Nat.lt_of_succ_lt (Heap.lt_size z)) (Nat.lt_irrefl _)
  refine call_own F.excBase_ValueError (fun X => refsVE_contains X bm hbm) (X _ _ hC) (looks_findIn X T.iC) (fun self => bind_fn X self T.tC) (one_size v) ?_
  refine low_init (s := ⟨(hp.push (kdv_tup [v])).push (excO C hp.objs.size), g, dr, tk, os⟩) T (X.keeps k) (hlim.keeps k) hget hnx ?_ fun h' tk' dx ⟨k', hx, dn, dne, hns⟩ => ?_
  · show A.depth + 1 < recursionLimit
    exact hroom
  · have old : ∀ b o, hp.get? b = some o → h'.get? b = some o := fun b o e => k' b o (Nat.ne_of_lt (Nat.lt_succ_of_lt (Heap.lt_size e))) (k b o e)
    have z : hp.objs.size + 1 + 1 ≤ dx := by
      first
        | (simpa only [Heap.size_push] using dn)
        | exact dn
        | (have q := dn; rw [Heap.size_push, Heap.size_push] at q; exact q)
    exact ⟨rfl, hq h' tk' (hp.objs.size + 1) dx ⟨old, Nat.le_succ _, ⟨_, _, hx, rfl, rfl, rfl, rfl⟩, Nat.le_trans (Nat.le_trans (Nat.le_succ _) (Nat.le_succ _)) z, dne, hns⟩⟩
theorem low_initK (T : LowTxt K mg C fI) {x t0 : Addr} {v : Value} (X : K.In s.heap) (hlim : s.heap.NoLimit) (hx : s.heap.get? x = some (excO C t0)) (hnx : K.lookup x = none) (hroom : A.depth < recursionLimit)
    (hq : ∀ h' tk dx, InitEnd s.heap h' x C dx t0 v → R (.ok (.ret .none)) { s with heap := h', toks := tk }) :
    codeAny (model prog w) A (.call (.ref fI) ⟨[.ref x], [("name", v)]⟩) R s := by
  obtain ⟨oc, od, doc, pm, an, cdv, ct, osl, p1, p2, q1, q2, q3, q4, ho, hcd⟩ := T.fn
  obtain ⟨nm, q, N, bs, bm, sn, sub, ab, col, dd, k0, k1, k2, k3, k5, hC, hbm⟩ := T.cls
  have hcl : clsIn K C = some { name := nm, bases := bs, mro := .ref C :: bm, ns := N, qualname := q, hasDict := true, slotNames := sn, subclasses := sub, abstract := ab, collection := col, hasDel := false } := by unfold clsIn; rw [hC] <;> rfl
  refine Att.call_fn (binds := [("self", .ref x), ("name", v)]) X hlim ho hcd hroom (BindsTo.of_eq (by first | rfl | with_unfolding_all rfl)) (by first | rfl | decide | with_unfolding_all rfl) (fun s₁ IC => ?_) rfl rfl rfl
  obtain ⟨h₁, tk₁, rfl⟩ := IC.toInCall.same
  have k : ∀ b o, s.heap.get? b = some o → h₁.get? b = some o := IC.toInCall.keep
  have hn := IC.toInCall.ns
  have hxL : s.heap.objs.size ≠ x := Nat.ne_of_gt (Heap.lt_size hx)
  have X₁ : K.In h₁ := X.keeps k
  have hx₁ := k _ _ hx
  -- self.by = by
  show wpAny _ _ (execs _ _) _ _ _
  refine wpAny_execs_cons (plainObj_wpAny_Assign_Attribute ?_)
  refine ldC (v := v) hn (by first | rfl | with_unfolding_all rfl | kernel_rfl) (ldC (v := .ref x) hn (by first | rfl | with_unfolding_all rfl | kernel_rfl) ?_)
  refine set_plain X₁ (ox := excO C t0) (od := none) ⟨hx₁, rfl, rfl, trivial⟩ T.sa ?_
  refine exc_osa X₁ hx₁ hcl (show refsVE (.ref C :: bm) = true from hbm) rfl T.noN (fun h₃ tk₃ dx k₃ dn dne hx₃ hn₃ => ?_)
  show wpAny _ _ (execs _ _) _ _ _
  have z : s.heap.objs.size < h₁.objs.size := hn.lt
  exact wpAny_execs_nil (hq h₃ tk₃ dx ⟨fun b o hb e => k₃ b o hb (k b o e), hx₃, Nat.le_of_lt (Nat.lt_of_lt_of_le z dn), dne, hn₃⟩)
theorem low_madeK (T : LowTxt K mg C fI) {v : Value} (X : K.In s.heap) (hlim : s.heap.NoLimit) (hroom : A.depth + 1 < recursionLimit)
    (hq : ∀ h' tk e d, OwnMade s.heap h' e C d v → R (.ok (.ret (.ref e))) { s with heap := h', toks := tk }) :
    codeAny (model prog w) A (.call (.ref C) ⟨[], [("name", v)]⟩) R s := by
  obtain ⟨nm, q, N, bs, bm, sn, sub, ab, col, dd, k0, k1, k2, k3, k5, hC, hbm⟩ := T.cls
  obtain ⟨hp, g, dr, tk, os⟩ := s
  have k : ∀ b o, hp.get? b = some o → ((hp.push (kdv_tup [])).push (excO C hp.objs.size)).get? b = some o := fun b o e => Heap.get?_push_of_some _ (Heap.get?_push_of_some _ e)
  have hget : ((hp.push (kdv_tup [])).push (excO C hp.objs.size)).get? (hp.objs.size + 1) = some (excO C hp.objs.size) := by heap_get
  have hnx : K.lookup (hp.objs.size + 1) = none := by
    cases e : K.lookup (hp.objs.size + 1) with
    | none => rfl
    | some o =>
      have z : hp.get? (hp.objs.size + 1) = some o := X _ _ e
      exact absurd (Nat.lt_of_succ_lt (Heap.lt_size z)) (Nat.lt_irrefl _)
  refine call_kw F.excBase_ValueError (fun X => refsVE_contains X bm hbm) (X _ _ hC) (looks_findIn X T.iC) (fun self => bind_fn X self T.tC) ?_
  refine low_initK (s := ⟨(hp.push (kdv_tup [])).push (excO C hp.objs.size), g, dr, tk, os⟩) T (X.keeps k) (hlim.keeps k) hget hnx ?_ fun h' tk' dx ⟨k', hx, dn, dne, hns⟩ => ?_
  · show A.depth + 1 < recursionLimit
    exact hroom
  · have old : ∀ b o, hp.get? b = some o → h'.get? b = some o := fun b o e => k' b o (Nat.ne_of_lt (Nat.lt_succ_of_lt (Heap.lt_size e))) (k b o e)
    have z : hp.objs.size + 1 + 1 ≤ dx := by
      first
        | (simpa only [Heap.size_push] using dn)
        | exact dn
        | (have q := dn; rw [Heap.size_push, Heap.size_push] at q; exact q)
    exact ⟨rfl, hq h' tk' (hp.objs.size + 1) dx ⟨old, Nat.le_succ _, ⟨_, _, hx, rfl, rfl, rfl, rfl⟩, Nat.le_trans (Nat.le_trans (Nat.le_succ _) (Nat.le_succ _)) z, dne, hns⟩⟩
end
end ErrBadOrder
end PySem
namespace L2
open PySem PySem.Spec PyProof.Rows
theorem relO_low_BadOrder {v : V} {v' : Value} (r : RelV v v') (f : Str) : RelO (List.lookup f [(("name" : Str), v)]) (if f = "name" then some v' else none) := by
  by_cases hw : f = "name"
  · subst hw
    rw [if_pos rfl]
    have q : List.lookup ("name" : Str) [(("name" : Str), v)] = some v := by simp [List.lookup]
    rw [q]
    exact r
  · rw [if_neg hw]
    have qw : (f == ("name" : Str)) = false := by simpa using hw
    have q2 : List.lookup f [(("name" : Str), v)] = none := by simp [List.lookup, qw]
    rw [q2]
    trivial
section
variable {X : Cx} {C fI : Addr}
/-- Low(e) -/
def tMkLow_BadOrder (C : Addr) (ta : TA) : St → Hp → XK → Prop := fun σ H Q => ta σ H fun vs H1 => ∃ v, vs = [v] ∧ ∀ d, H1 d = none → Q (.ref C) (some d) (upd H1 d (.xd [(("name" : Str), v)]))
theorem pmk_low_BadOrder {a : Expr} {ta : TA} {p pos : Pos} {k : Nat} (T : PySem.ErrBadOrder.LowTxt X.K X.mg C fI) (hr : Room k X.A) (ha : PA X [a] ta) (hg : Gl X "BadOrder" := by rfl)
    (he : starEach (a :: []) X.env = (false, eval a X.env) :: starEach [] X.env := by rfl) (hpl : (backTo pos (starEach [] X.env)).any (·.1) = false := by rfl) :
    PMk X (.Call (.Name "BadOrder" p) [a] [] pos) (tMkLow_BadOrder C ta) := by
  intro pins s σ H Q I h
  refine wpAny_Call_Name_kw (ld_glob I hg T.gC ?_)
  refine PySem.W.callWith_K (h₀ := X.base) I.ok.mod.kin T.kC (thn (ha.run pos pins s σ H _ I h) fun us s1 hh => ?_) he hpl
  obtain ⟨vs, H1, I1, r1, v, ev, q1⟩ := hh
  subst ev
  refine ⟨I1.kIn, ?_⟩
  cases r1 with
  | cons rv rn =>
    rename_i v' us'
    cases rn
    show wpAny _ _ (call (.ref C) [v']) _ _ _
    have hlim := I1.nolimit
    obtain ⟨hp, g, dr, tk, os⟩ := s1
    refine wpAny_call (PySem.ErrBadOrder.low_made T I1.kIn hlim (by have := hr.dp; omega) fun h' tk' e d M => ?_)
    show MkP X pins σ Q (.ref e) ⟨h', g, dr, tk', os⟩
    obtain ⟨oe, fv, hoe, hc, hd, hdat, h1⟩ := M.obj
    have hns := M.ns
    obtain ⟨G', g1, g2⟩ := restrict h' fun b => decide (b ≠ e)
    have gk : ∀ b, b ≠ e → G'.get? b = h'.get? b := fun b hb => g1 b (decide_eq_true hb)
    have ge : G'.get? e = none := g2 e (by simp)
    have old : ∀ b o, hp.get? b = some o → G'.get? b = some o := fun b o q => (gk b (Nat.ne_of_lt (Nat.lt_of_lt_of_le (Heap.lt_size q) M.new))).trans (M.keep b o q)
    have ob : ObjOk X.prog X.w (upd H1 d (.xd [(("name" : Str), v)])) G' d (.xd [(("name" : Str), v)]) :=
      ⟨_, hns.at (fun o q => (gk d M.dne).trans q), fun f => relO_low_BadOrder rv f⟩
    have J : Inv X pins σ (upd H1 d (.xd [(("name" : Str), v)])) ⟨G', g, dr, tk', os⟩ := I1.laid (t' := tk') old M.dbig ob
    refine ⟨e, oe, fv, ⟨G', g, dr, tk', os⟩, _, .ref C, some d, rfl, J, fun b o q => ?_, ge, hoe, ⟨hc, hd⟩, hdat, h1, ?_, rfl, I1.bare, raises_own T.exC T.tyC, q1 d (I1.hok.fresh M.dbig)⟩
    · by_cases hb : b = e
      · have q' : G'.get? b = some o := q
        rw [hb, ge] at q'; cases q'
      · exact (gk b hb).symm.trans q
    · rw [upd_ne (Ne.symm M.dne)]
      exact I1.hok.fresh M.new
/-- raise Low(e) -/
def tRaiseLow_BadOrder (C : Addr) (W : WX) (ta : TA) : TS := fun _ σ H => tMkLow_BadOrder C ta σ H fun cls d H' => W cls d σ H'
theorem ps_raiseLow_BadOrder {a : Expr} {ta : TA} {W : WX} {p pos pos2 : Pos} {k : Nat} (hc : X.calm = true) (T : PySem.ErrBadOrder.LowTxt X.K X.mg C fI) (hr : Room k X.A) (tk : Takes X W) (ha : PA X [a] ta) (hg : Gl X "BadOrder" := by rfl)
    (he : starEach (a :: []) X.env = (false, eval a X.env) :: starEach [] X.env := by rfl) (hpl : (backTo pos (starEach [] X.env)).any (·.1) = false := by rfl) :
    PS X (.Raise (some (.Call (.Name "BadOrder" p) [a] [] pos)) none pos2) (tRaiseLow_BadOrder C W ta) := ps_raise hc tk (pmk_low_BadOrder T hr ha hg he hpl)
/-- C(f = e).f -/
theorem pe_namk_BadOrder {e : Expr} {te : TE} {p kp pos pos2 : Pos} {k : Nat} (T : PySem.ErrBadOrder.LowTxt X.K X.mg C fI) (hr : Room k X.A) (he : PE X e te) (hg : Gl X "BadOrder" := by rfl)
    (hall : (backToKw pos (keywordEach [⟨some "name", e, kp⟩] X.env)).all (·.1.isSome) = true := by rfl) (hks : (backToKw pos (keywordEach [⟨some "name", e, kp⟩] X.env)).filterMap (·.1) = [("name" : Str)] := by rfl)
    (hpl : ((backTo pos (starEach [] X.env)).any (·.1) || (backToKw pos (keywordEach [⟨some "name", e, kp⟩] X.env)).any (·.1.isNone)) = false := by rfl)
    (hb : attributeBase (.Call (.Name "BadOrder" p) [] [⟨some "name", e, kp⟩] pos) "name" X.env (eval (.Call (.Name "BadOrder" p) [] [⟨some "name", e, kp⟩] pos) X.env) = eval (.Call (.Name "BadOrder" p) [] [⟨some "name", e, kp⟩] pos) X.env := by rfl) :
    PE X (.Attribute (.Call (.Name "BadOrder" p) [] [⟨some "name", e, kp⟩] pos) "name" pos2) te := by
  refine ⟨fun pins s σ H Q I h => ?_⟩
  refine attr_of hb ?_
  refine wpAny_Call_Name_kw (ld_glob I hg T.gC ?_)
  refine PySem.W.callWith_KW0 (h₀ := X.base) I.ok.mod.kin T.kC hall (thn ((pk_one he).run pos pins s σ H (fun zs H2 => match zs with | [v] => Q v H2 | _ => False) I h) fun us s1 hh => ?_) hpl
  obtain ⟨vs, H1, I1, r1, q1⟩ := hh
  refine ⟨I1.kIn, ?_⟩
  rw [hks]
  match vs, us, r1, q1 with
  | [v], [v'], .cons rv .nil, q1 =>
    have hlim := I1.nolimit
    obtain ⟨hp, g, dr, tk, os⟩ := s1
    refine wpAny_call (PySem.ErrBadOrder.low_madeK T I1.kIn hlim (by have := hr.dp; omega) fun h' tk' e d M => ?_)
    show wpAny _ _ (getAttr (.ref e) "name" true) _ _ ⟨h', g, dr, tk', os⟩
    obtain ⟨oe, fv, hoe, hc, hd, hdat, h1⟩ := M.obj
    obtain ⟨od, hod, hl⟩ := lookIn_ns M.ns
    have J : PySem.W.InstAt h' e oe C (some od) := ⟨hoe, hc, by unfold PySem.W.notCls; rw [hdat] <;> rfl, by rw [hd]; exact hod⟩
    have I2 : Inv X pins σ H1 ⟨h', g, dr, tk', os⟩ := I1.kept (t' := tk') M.keep
    exact HandSPX.exc_get I2.kIn J T.ga T.gg T.exC (PySem.W.findObj_own T.hdC T.noN rfl (by rw [hl, if_pos rfl])) (handed_of rv) ⟨v, H1, I2.tok _, rv, q1⟩
end
end L2
namespace PySem
namespace ErrNoWay
open PySem.W PySem.Calls PyProof.Rows PySem.HandSPX
def iA (p1 p2 : Pos) : Arguments := { posonlyargs := [], args := [{ arg := "self", annotation := none, pos := p1 }, { arg := "pair", annotation := none, pos := p2 }], vararg := none, kwonlyargs := [], kw_defaults := [], kwarg := none, defaults := [] }
def iB (q1 q2 q3 q4 : Pos) : List Stmt := [.Assign [.Attribute (.Name "self" q1) "pair" q2] (.Name "pair" q3) q4]
def iS : Scope := { kind := .function, names := [(PySem.Str.ofString "self", .local), (PySem.Str.ofString "pair", .local)], isGenerator := false, isCoroutine := false, more := [] }
/-- what the written part says of Low, at C, and of its __init__, at fI -/
structure LowTxt (K : Frag) (mg : Str → Option Value) (C fI : Addr) : Prop where
  gC : mg "NoWay" = some (.ref C)
  cls : ∃ nm q N bs bm sn sub ab col dd k0 k1 k2 k3 k5, K.lookup C = some (excClassObj nm q C N bs bm true sn sub ab col dd k0 k1 k2 k3 k5 "ValueError.__new__") ∧ refsVE bm = true
  sa : findIn K (.ref C) "__setattr__" = some (some (.builtin "object.__setattr__"))
  ga : findIn K (.ref C) "__getattribute__" = some (some (.builtin "BaseException.__getattribute__"))
  gg : findIn K (.ref C) "__getattr__" = some none
  noN : findIn K (.ref C) "pair" = some none
  iC : findIn K (.ref C) "__init__" = some (some (.ref fI))
  tC : typeIn K (.ref fI) = some (.type "function")
  kC : keepIn K (.ref C) = true
  exC : subIn K (.ref C) (.type "BaseException") = some true
  tyC : typeIn K (.ref C) = some (.type "type")
  hdC : hasDictIn K C = true
  te : exmOne K (.ref C) (.ref C) = some true
  fn : ∃ (oc : Value) (od : Option Addr) (doc pm : Value) (an : Option Addr) (cdv ct : Value) (osl : Array (Option Value)) (p1 p2 q1 q2 q3 q4 : Pos),
    K.lookup fI = some ⟨oc, od, .func (fnOf "__init__" "NoWay.__init__" (iA p1 p2) (iB q1 q2 q3 q4) iS .none .none doc pm an cdv ct), osl⟩ ∧ codeIn K cdv "NoWay.__init__" = true
theorem one_size (v : Value) : [v].length ≤ sizeLine := by
  rw [sizeLine_eq]
  exact (by decide : 1 ≤ 16777216)
theorem ldC {M : Model} {s : Shared} {name : Str} {scope : Scope} {L a : Addr} {cd : Value} {m : Str → Option Value} {x : Str} {pos : Pos} {v : Value} {Q : Value → Shared → Prop} {A : Around} {E : Value → Shared → Prop} (hn : s.heap.Ns L m) (hv : m x = some v) (h : Q v s)
    (hk : scope.kind = .function := by rfl) (hl : (envOfC name scope L a cd).kindOf x = some .local := by rfl) (hd : (x == ("__debug__" : Str)) = false := by decide) :
    wpAny M A (eval (.Name x pos) (envOfC name scope L a cd)) Q E s := wpAny_Name (wpAny_loadName_local hk hl hn hv h) hd
/-- what __init__ leaves of a fresh exception at x -/
structure InitEnd (h h' : Heap) (x C dx t1 : Addr) (v : Value) : Prop where
  keep : ∀ b o, b ≠ x → h.get? b = some o → h'.get? b = some o
  obj : h'.get? x = some { cls := .ref C, dict := some dx, data := .fields #[.ref t1, .none, .none, .none, .bool false, .none] }
  dbig : h.objs.size ≤ dx
  dne : dx ≠ x
  ns : h'.Ns1 dx (fun y => if y = "pair" then some v else none)
/-- a made Low -/
structure OwnMade (h h' : Heap) (e C d : Addr) (v : Value) : Prop where
  keep : ∀ b o, h.get? b = some o → h'.get? b = some o
  new : h.objs.size ≤ e
  obj : ∃ oe vs, h'.get? e = some oe ∧ oe.cls = .ref C ∧ oe.dict = some d ∧ oe.data = .fields vs ∧ vs[1]? = some .none
  dbig : h.objs.size ≤ d
  dne : d ≠ e
  ns : h'.Ns1 d (fun y => if y = "pair" then some v else none)
section
variable {prog : Program} {w : World} {A : Around} {E : Value → Shared → Prop} {R : Result → Shared → Prop} {s : Shared} {K : Frag} {mg : Str → Option Value} {C fI : Addr}
theorem low_init (T : LowTxt K mg C fI) {x t0 : Addr} {v : Value} (X : K.In s.heap) (hlim : s.heap.NoLimit) (hx : s.heap.get? x = some (excO C t0)) (hnx : K.lookup x = none) (hroom : A.depth < recursionLimit)
    (hq : ∀ h' tk dx, InitEnd s.heap h' x C dx t0 v → R (.ok (.ret .none)) { s with heap := h', toks := tk }) :
    codeAny (model prog w) A (.call (.ref fI) ⟨[.ref x, v], []⟩) R s := by
  obtain ⟨oc, od, doc, pm, an, cdv, ct, osl, p1, p2, q1, q2, q3, q4, ho, hcd⟩ := T.fn
  obtain ⟨nm, q, N, bs, bm, sn, sub, ab, col, dd, k0, k1, k2, k3, k5, hC, hbm⟩ := T.cls
  have hcl : clsIn K C = some { name := nm, bases := bs, mro := .ref C :: bm, ns := N, qualname := q, hasDict := true, slotNames := sn, subclasses := sub, abstract := ab, collection := col, hasDel := false } := by unfold clsIn; rw [hC] <;> rfl
  refine Att.call_fn (binds := [("self", .ref x), ("pair", v)]) X hlim ho hcd hroom (BindsTo.of_eq (by first | rfl | with_unfolding_all rfl)) (by first | rfl | decide | with_unfolding_all rfl) (fun s₁ IC => ?_) rfl rfl rfl
  obtain ⟨h₁, tk₁, rfl⟩ := IC.toInCall.same
  have k : ∀ b o, s.heap.get? b = some o → h₁.get? b = some o := IC.toInCall.keep
  have hn := IC.toInCall.ns
  have hxL : s.heap.objs.size ≠ x := Nat.ne_of_gt (Heap.lt_size hx)
  have X₁ : K.In h₁ := X.keeps k
  have hx₁ := k _ _ hx
  -- self.by = by
  show wpAny _ _ (execs _ _) _ _ _
  refine wpAny_execs_cons (plainObj_wpAny_Assign_Attribute ?_)
  refine ldC (v := v) hn (by first | rfl | with_unfolding_all rfl | kernel_rfl) (ldC (v := .ref x) hn (by first | rfl | with_unfolding_all rfl | kernel_rfl) ?_)
  refine set_plain X₁ (ox := excO C t0) (od := none) ⟨hx₁, rfl, rfl, trivial⟩ T.sa ?_
  refine exc_osa X₁ hx₁ hcl (show refsVE (.ref C :: bm) = true from hbm) rfl T.noN (fun h₃ tk₃ dx k₃ dn dne hx₃ hn₃ => ?_)
  show wpAny _ _ (execs _ _) _ _ _
  have z : s.heap.objs.size < h₁.objs.size := hn.lt
  exact wpAny_execs_nil (hq h₃ tk₃ dx ⟨fun b o hb e => k₃ b o hb (k b o e), hx₃, Nat.le_of_lt (Nat.lt_of_lt_of_le z dn), dne, hn₃⟩)
theorem low_made (T : LowTxt K mg C fI) {v : Value} (X : K.In s.heap) (hlim : s.heap.NoLimit) (hroom : A.depth + 1 < recursionLimit)
    (hq : ∀ h' tk e d, OwnMade s.heap h' e C d v → R (.ok (.ret (.ref e))) { s with heap := h', toks := tk }) :
    codeAny (model prog w) A (.call (.ref C) ⟨[v], []⟩) R s := by
  obtain ⟨nm, q, N, bs, bm, sn, sub, ab, col, dd, k0, k1, k2, k3, k5, hC, hbm⟩ := T.cls
  obtain ⟨hp, g, dr, tk, os⟩ := s
  have k : ∀ b o, hp.get? b = some o → ((hp.push (kdv_tup [v])).push (excO C hp.objs.size)).get? b = some o := fun b o e => Heap.get?_push_of_some _ (Heap.get?_push_of_some _ e)
  have hget : ((hp.push (kdv_tup [v])).push (excO C hp.objs.size)).get? (hp.objs.size + 1) = some (excO C hp.objs.size) := by heap_get
  have hnx : K.lookup (hp.objs.size + 1) = none := by
    cases e : K.lookup (hp.objs.size + 1) with
    | none => rfl
    | some o =>
      have z : hp.get? (hp.objs.size + 1) = some o := X _ _ e
      exact absurd (Nat.lt_of_succ_lt (Heap.lt_size z)) (Nat.lt_irrefl _)
  refine call_own F.excBase_ValueError (fun X => refsVE_contains X bm hbm) (X _ _ hC) (looks_findIn X T.iC) (fun self => bind_fn X self T.tC) (one_size v) ?_
  refine low_init (s := ⟨(hp.push (kdv_tup [v])).push (excO C hp.objs.size), g, dr, tk, os⟩) T (X.keeps k) (hlim.keeps k) hget hnx ?_ fun h' tk' dx ⟨k', hx, dn, dne, hns⟩ => ?_
  · show A.depth + 1 < recursionLimit
    exact hroom
  · have old : ∀ b o, hp.get? b = some o → h'.get? b = some o := fun b o e => k' b o (Nat.ne_of_lt (Nat.lt_succ_of_lt (Heap.lt_size e))) (k b o e)
    have z : hp.objs.size + 1 + 1 ≤ dx := by
      first
        | (simpa only [Heap.size_push] using dn)
        | exact dn
        | (have q := dn; rw [Heap.size_push, Heap.size_push] at q; exact q)
    exact ⟨rfl, hq h' tk' (hp.objs.size + 1) dx ⟨old, Nat.le_succ _, ⟨_, _, hx, rfl, rfl, rfl, rfl⟩, Nat.le_trans (Nat.le_trans (Nat.le_succ _) (Nat.le_succ _)) z, dne, hns⟩⟩
theorem low_initK (T : LowTxt K mg C fI) {x t0 : Addr} {v : Value} (X : K.In s.heap) (hlim : s.heap.NoLimit) (hx : s.heap.get? x = some (excO C t0)) (hnx : K.lookup x = none) (hroom : A.depth < recursionLimit)
    (hq : ∀ h' tk dx, InitEnd s.heap h' x C dx t0 v → R (.ok (.ret .none)) { s with heap := h', toks := tk }) :
    codeAny (model prog w) A (.call (.ref fI) ⟨[.ref x], [("pair", v)]⟩) R s := by
  obtain ⟨oc, od, doc, pm, an, cdv, ct, osl, p1, p2, q1, q2, q3, q4, ho, hcd⟩ := T.fn
  obtain ⟨nm, q, N, bs, bm, sn, sub, ab, col, dd, k0, k1, k2, k3, k5, hC, hbm⟩ := T.cls
  have hcl : clsIn K C = some { name := nm, bases := bs, mro := .ref C :: bm, ns := N, qualname := q, hasDict := true, slotNames := sn, subclasses := sub, abstract := ab, collection := col, hasDel := false } := by unfold clsIn; rw [hC] <;> rfl
  refine Att.call_fn (binds := [("self", .ref x), ("pair", v)]) X hlim ho hcd hroom (BindsTo.of_eq (by first | rfl | with_unfolding_all rfl)) (by first | rfl | decide | with_unfolding_all rfl) (fun s₁ IC => ?_) rfl rfl rfl
  obtain ⟨h₁, tk₁, rfl⟩ := IC.toInCall.same
  have k : ∀ b o, s.heap.get? b = some o → h₁.get? b = some o := IC.toInCall.keep
  have hn := IC.toInCall.ns
  have hxL : s.heap.objs.size ≠ x := Nat.ne_of_gt (Heap.lt_size hx)
  have X₁ : K.In h₁ := X.keeps k
  have hx₁ := k _ _ hx
  -- self.by = by
  show wpAny _ _ (execs _ _) _ _ _
  refine wpAny_execs_cons (plainObj_wpAny_Assign_Attribute ?_)
  refine ldC (v := v) hn (by first | rfl | with_unfolding_all rfl | kernel_rfl) (ldC (v := .ref x) hn (by first | rfl | with_unfolding_all rfl | kernel_rfl) ?_)
  refine set_plain X₁ (ox := excO C t0) (od := none) ⟨hx₁, rfl, rfl, trivial⟩ T.sa ?_
  refine exc_osa X₁ hx₁ hcl (show refsVE (.ref C :: bm) = true from hbm) rfl T.noN (fun h₃ tk₃ dx k₃ dn dne hx₃ hn₃ => ?_)
  show wpAny _ _ (execs _ _) _ _ _
  have z : s.heap.objs.size < h₁.objs.size := hn.lt
  exact wpAny_execs_nil (hq h₃ tk₃ dx ⟨fun b o hb e => k₃ b o hb (k b o e), hx₃, Nat.le_of_lt (Nat.lt_of_lt_of_le z dn), dne, hn₃⟩)
theorem low_madeK (T : LowTxt K mg C fI) {v : Value} (X : K.In s.heap) (hlim : s.heap.NoLimit) (hroom : A.depth + 1 < recursionLimit)
    (hq : ∀ h' tk e d, OwnMade s.heap h' e C d v → R (.ok (.ret (.ref e))) { s with heap := h', toks := tk }) :
    codeAny (model prog w) A (.call (.ref C) ⟨[], [("pair", v)]⟩) R s := by
  obtain ⟨nm, q, N, bs, bm, sn, sub, ab, col, dd, k0, k1, k2, k3, k5, hC, hbm⟩ := T.cls
  obtain ⟨hp, g, dr, tk, os⟩ := s
  have k : ∀ b o, hp.get? b = some o → ((hp.push (kdv_tup [])).push (excO C hp.objs.size)).get? b = some o := fun b o e => Heap.get?_push_of_some _ (Heap.get?_push_of_some _ e)
  have hget : ((hp.push (kdv_tup [])).push (excO C hp.objs.size)).get? (hp.objs.size + 1) = some (excO C hp.objs.size) := by heap_get
  have hnx : K.lookup (hp.objs.size + 1) = none := by
    cases e : K.lookup (hp.objs.size + 1) with
    | none => rfl
    | some o =>
      have z : hp.get? (hp.objs.size + 1) = some o := X _ _ e
      exact absurd (Nat.lt_of_succ_lt (Heap.lt_size z)) (Nat.lt_irrefl _)
  refine call_kw F.excBase_ValueError (fun X => refsVE_contains X bm hbm) (X _ _ hC) (looks_findIn X T.iC) (fun self => bind_fn X self T.tC) ?_
  refine low_initK (s := ⟨(hp.push (kdv_tup [])).push (excO C hp.objs.size), g, dr, tk, os⟩) T (X.keeps k) (hlim.keeps k) hget hnx ?_ fun h' tk' dx ⟨k', hx, dn, dne, hns⟩ => ?_
  · show A.depth + 1 < recursionLimit
    exact hroom
  · have old : ∀ b o, hp.get? b = some o → h'.get? b = some o := fun b o e => k' b o (Nat.ne_of_lt (Nat.lt_succ_of_lt (Heap.lt_size e))) (k b o e)
    have z : hp.objs.size + 1 + 1 ≤ dx := by
      first
        | (simpa only [Heap.size_push] using dn)
        | exact dn
        | (have q := dn; rw [Heap.size_push, Heap.size_push] at q; exact q)
    exact ⟨rfl, hq h' tk' (hp.objs.size + 1) dx ⟨old, Nat.le_succ _, ⟨_, _, hx, rfl, rfl, rfl, rfl⟩, Nat.le_trans (Nat.le_trans (Nat.le_succ _) (Nat.le_succ _)) z, dne, hns⟩⟩
end
end ErrNoWay
end PySem
namespace L2
open PySem PySem.Spec PyProof.Rows
theorem relO_low_NoWay {v : V} {v' : Value} (r : RelV v v') (f : Str) : RelO (List.lookup f [(("pair" : Str), v)]) (if f = "pair" then some v' else none) := by
  by_cases hw : f = "pair"
  · subst hw
    rw [if_pos rfl]
    have q : List.lookup ("pair" : Str) [(("pair" : Str), v)] = some v := by simp [List.lookup]
    rw [q]
    exact r
  · rw [if_neg hw]
    have qw : (f == ("pair" : Str)) = false := by simpa using hw
    have q2 : List.lookup f [(("pair" : Str), v)] = none := by simp [List.lookup, qw]
    rw [q2]
    trivial
section
variable {X : Cx} {C fI : Addr}
/-- Low(e) -/
def tMkLow_NoWay (C : Addr) (ta : TA) : St → Hp → XK → Prop := fun σ H Q => ta σ H fun vs H1 => ∃ v, vs = [v] ∧ ∀ d, H1 d = none → Q (.ref C) (some d) (upd H1 d (.xd [(("pair" : Str), v)]))
theorem pmk_low_NoWay {a : Expr} {ta : TA} {p pos : Pos} {k : Nat} (T : PySem.ErrNoWay.LowTxt X.K X.mg C fI) (hr : Room k X.A) (ha : PA X [a] ta) (hg : Gl X "NoWay" := by rfl)
    (he : starEach (a :: []) X.env = (false, eval a X.env) :: starEach [] X.env := by rfl) (hpl : (backTo pos (starEach [] X.env)).any (·.1) = false := by rfl) :
    PMk X (.Call (.Name "NoWay" p) [a] [] pos) (tMkLow_NoWay C ta) := by
  intro pins s σ H Q I h
  refine wpAny_Call_Name_kw (ld_glob I hg T.gC ?_)
  refine PySem.W.callWith_K (h₀ := X.base) I.ok.mod.kin T.kC (thn (ha.run pos pins s σ H _ I h) fun us s1 hh => ?_) he hpl
  obtain ⟨vs, H1, I1, r1, v, ev, q1⟩ := hh
  subst ev
  refine ⟨I1.kIn, ?_⟩
  cases r1 with
  | cons rv rn =>
    rename_i v' us'
    cases rn
    show wpAny _ _ (call (.ref C) [v']) _ _ _
    have hlim := I1.nolimit
    obtain ⟨hp, g, dr, tk, os⟩ := s1
    refine wpAny_call (PySem.ErrNoWay.low_made T I1.kIn hlim (by have := hr.dp; omega) fun h' tk' e d M => ?_)
    show MkP X pins σ Q (.ref e) ⟨h', g, dr, tk', os⟩
    obtain ⟨oe, fv, hoe, hc, hd, hdat, h1⟩ := M.obj
    have hns := M.ns
    obtain ⟨G', g1, g2⟩ := restrict h' fun b => decide (b ≠ e)
    have gk : ∀ b, b ≠ e → G'.get? b = h'.get? b := fun b hb => g1 b (decide_eq_true hb)
    have ge : G'.get? e = none := g2 e (by simp)
    have old : ∀ b o, hp.get? b = some o → G'.get? b = some o := fun b o q => (gk b (Nat.ne_of_lt (Nat.lt_of_lt_of_le (Heap.lt_size q) M.new))).trans (M.keep b o q)
    have ob : ObjOk X.prog X.w (upd H1 d (.xd [(("pair" : Str), v)])) G' d (.xd [(("pair" : Str), v)]) :=
      ⟨_, hns.at (fun o q => (gk d M.dne).trans q), fun f => relO_low_NoWay rv f⟩
    have J : Inv X pins σ (upd H1 d (.xd [(("pair" : Str), v)])) ⟨G', g, dr, tk', os⟩ := I1.laid (t' := tk') old M.dbig ob
    refine ⟨e, oe, fv, ⟨G', g, dr, tk', os⟩, _, .ref C, some d, rfl, J, fun b o q => ?_, ge, hoe, ⟨hc, hd⟩, hdat, h1, ?_, rfl, I1.bare, raises_own T.exC T.tyC, q1 d (I1.hok.fresh M.dbig)⟩
    · by_cases hb : b = e
      · have q' : G'.get? b = some o := q
        rw [hb, ge] at q'; cases q'
      · exact (gk b hb).symm.trans q
    · rw [upd_ne (Ne.symm M.dne)]
      exact I1.hok.fresh M.new
/-- raise Low(e) -/
def tRaiseLow_NoWay (C : Addr) (W : WX) (ta : TA) : TS := fun _ σ H => tMkLow_NoWay C ta σ H fun cls d H' => W cls d σ H'
theorem ps_raiseLow_NoWay {a : Expr} {ta : TA} {W : WX} {p pos pos2 : Pos} {k : Nat} (hc : X.calm = true) (T : PySem.ErrNoWay.LowTxt X.K X.mg C fI) (hr : Room k X.A) (tk : Takes X W) (ha : PA X [a] ta) (hg : Gl X "NoWay" := by rfl)
    (he : starEach (a :: []) X.env = (false, eval a X.env) :: starEach [] X.env := by rfl) (hpl : (backTo pos (starEach [] X.env)).any (·.1) = false := by rfl) :
    PS X (.Raise (some (.Call (.Name "NoWay" p) [a] [] pos)) none pos2) (tRaiseLow_NoWay C W ta) := ps_raise hc tk (pmk_low_NoWay T hr ha hg he hpl)
/-- C(f = e).f -/
theorem pe_namk_NoWay {e : Expr} {te : TE} {p kp pos pos2 : Pos} {k : Nat} (T : PySem.ErrNoWay.LowTxt X.K X.mg C fI) (hr : Room k X.A) (he : PE X e te) (hg : Gl X "NoWay" := by rfl)
    (hall : (backToKw pos (keywordEach [⟨some "pair", e, kp⟩] X.env)).all (·.1.isSome) = true := by rfl) (hks : (backToKw pos (keywordEach [⟨some "pair", e, kp⟩] X.env)).filterMap (·.1) = [("pair" : Str)] := by rfl)
    (hpl : ((backTo pos (starEach [] X.env)).any (·.1) || (backToKw pos (keywordEach [⟨some "pair", e, kp⟩] X.env)).any (·.1.isNone)) = false := by rfl)
    (hb : attributeBase (.Call (.Name "NoWay" p) [] [⟨some "pair", e, kp⟩] pos) "pair" X.env (eval (.Call (.Name "NoWay" p) [] [⟨some "pair", e, kp⟩] pos) X.env) = eval (.Call (.Name "NoWay" p) [] [⟨some "pair", e, kp⟩] pos) X.env := by rfl) :
    PE X (.Attribute (.Call (.Name "NoWay" p) [] [⟨some "pair", e, kp⟩] pos) "pair" pos2) te := by
  refine ⟨fun pins s σ H Q I h => ?_⟩
  refine attr_of hb ?_
  refine wpAny_Call_Name_kw (ld_glob I hg T.gC ?_)
  refine PySem.W.callWith_KW0 (h₀ := X.base) I.ok.mod.kin T.kC hall (thn ((pk_one he).run pos pins s σ H (fun zs H2 => match zs with | [v] => Q v H2 | _ => False) I h) fun us s1 hh => ?_) hpl
  obtain ⟨vs, H1, I1, r1, q1⟩ := hh
  refine ⟨I1.kIn, ?_⟩
  rw [hks]
  match vs, us, r1, q1 with
  | [v], [v'], .cons rv .nil, q1 =>
    have hlim := I1.nolimit
    obtain ⟨hp, g, dr, tk, os⟩ := s1
    refine wpAny_call (PySem.ErrNoWay.low_madeK T I1.kIn hlim (by have := hr.dp; omega) fun h' tk' e d M => ?_)
    show wpAny _ _ (getAttr (.ref e) "pair" true) _ _ ⟨h', g, dr, tk', os⟩
    obtain ⟨oe, fv, hoe, hc, hd, hdat, h1⟩ := M.obj
    obtain ⟨od, hod, hl⟩ := lookIn_ns M.ns
    have J : PySem.W.InstAt h' e oe C (some od) := ⟨hoe, hc, by unfold PySem.W.notCls; rw [hdat] <;> rfl, by rw [hd]; exact hod⟩
    have I2 : Inv X pins σ H1 ⟨h', g, dr, tk', os⟩ := I1.kept (t' := tk') M.keep
    exact HandSPX.exc_get I2.kIn J T.ga T.gg T.exC (PySem.W.findObj_own T.hdC T.noN rfl (by rw [hl, if_pos rfl])) (handed_of rv) ⟨v, H1, I2.tok _, rv, q1⟩
end
end L2
namespace PySem
namespace ErrRing
open PySem.W PySem.Calls PyProof.Rows PySem.HandSPX
def iA (p1 p2 : Pos) : Arguments := { posonlyargs := [], args := [{ arg := "self", annotation := none, pos := p1 }, { arg := "ring", annotation := none, pos := p2 }], vararg := none, kwonlyargs := [], kw_defaults := [], kwarg := none, defaults := [] }
def iB (q1 q2 q3 q4 : Pos) : List Stmt := [.Assign [.Attribute (.Name "self" q1) "ring" q2] (.Name "ring" q3) q4]
def iS : Scope := { kind := .function, names := [(PySem.Str.ofString "self", .local), (PySem.Str.ofString "ring", .local)], isGenerator := false, isCoroutine := false, more := [] }
/-- what the written part says of Low, at C, and of its __init__, at fI -/
structure LowTxt (K : Frag) (mg : Str → Option Value) (C fI : Addr) : Prop where
  gC : mg "Ring" = some (.ref C)
  cls : ∃ nm q N bs bm sn sub ab col dd k0 k1 k2 k3 k5, K.lookup C = some (excClassObj nm q C N bs bm true sn sub ab col dd k0 k1 k2 k3 k5 "ValueError.__new__") ∧ refsVE bm = true
  sa : findIn K (.ref C) "__setattr__" = some (some (.builtin "object.__setattr__"))
  ga : findIn K (.ref C) "__getattribute__" = some (some (.builtin "BaseException.__getattribute__"))
  gg : findIn K (.ref C) "__getattr__" = some none
  noN : findIn K (.ref C) "ring" = some none
  iC : findIn K (.ref C) "__init__" = some (some (.ref fI))
  tC : typeIn K (.ref fI) = some (.type "function")
  kC : keepIn K (.ref C) = true
  exC : subIn K (.ref C) (.type "BaseException") = some true
  tyC : typeIn K (.ref C) = some (.type "type")
  hdC : hasDictIn K C = true
  te : exmOne K (.ref C) (.ref C) = some true
  fn : ∃ (oc : Value) (od : Option Addr) (doc pm : Value) (an : Option Addr) (cdv ct : Value) (osl : Array (Option Value)) (p1 p2 q1 q2 q3 q4 : Pos),
    K.lookup fI = some ⟨oc, od, .func (fnOf "__init__" "Ring.__init__" (iA p1 p2) (iB q1 q2 q3 q4) iS .none .none doc pm an cdv ct), osl⟩ ∧ codeIn K cdv "Ring.__init__" = true
theorem one_size (v : Value) : [v].length ≤ sizeLine := by
  rw [sizeLine_eq]
  exact (by decide : 1 ≤ 16777216)
theorem ldC {M : Model} {s : Shared} {name : Str} {scope : Scope} {L a : Addr} {cd : Value} {m : Str → Option Value} {x : Str} {pos : Pos} {v : Value} {Q : Value → Shared → Prop} {A : Around} {E : Value → Shared → Prop} (hn : s.heap.Ns L m) (hv : m x = some v) (h : Q v s)
    (hk : scope.kind = .function := by rfl) (hl : (envOfC name scope L a cd).kindOf x = some .local := by rfl) (hd : (x == ("__debug__" : Str)) = false := by decide) :
    wpAny M A (eval (.Name x pos) (envOfC name scope L a cd)) Q E s := wpAny_Name (wpAny_loadName_local hk hl hn hv h) hd
/-- what __init__ leaves of a fresh exception at x -/
structure InitEnd (h h' : Heap) (x C dx t1 : Addr) (v : Value) : Prop where
  keep : ∀ b o, b ≠ x → h.get? b = some o → h'.get? b = some o
  obj : h'.get? x = some { cls := .ref C, dict := some dx, data := .fields #[.ref t1, .none, .none, .none, .bool false, .none] }
  dbig : h.objs.size ≤ dx
  dne : dx ≠ x
  ns : h'.Ns1 dx (fun y => if y = "ring" then some v else none)
/-- a made Low -/
structure OwnMade (h h' : Heap) (e C d : Addr) (v : Value) : Prop where
  keep : ∀ b o, h.get? b = some o → h'.get? b = some o
  new : h.objs.size ≤ e
  obj : ∃ oe vs, h'.get? e = some oe ∧ oe.cls = .ref C ∧ oe.dict = some d ∧ oe.data = .fields vs ∧ vs[1]? = some .none
  dbig : h.objs.size ≤ d
  dne : d ≠ e
  ns : h'.Ns1 d (fun y => if y = "ring" then some v else none)
section
variable {prog : Program} {w : World} {A : Around} {E : Value → Shared → Prop} {R : Result → Shared → Prop} {s : Shared} {K : Frag} {mg : Str → Option Value} {C fI : Addr}
theorem low_init (T : LowTxt K mg C fI) {x t0 : Addr} {v : Value} (X : K.In s.heap) (hlim : s.heap.NoLimit) (hx : s.heap.get? x = some (excO C t0)) (hnx : K.lookup x = none) (hroom : A.depth < recursionLimit)
    (hq : ∀ h' tk dx, InitEnd s.heap h' x C dx t0 v → R (.ok (.ret .none)) { s with heap := h', toks := tk }) :
    codeAny (model prog w) A (.call (.ref fI) ⟨[.ref x, v], []⟩) R s := by
  obtain ⟨oc, od, doc, pm, an, cdv, ct, osl, p1, p2, q1, q2, q3, q4, ho, hcd⟩ := T.fn
  obtain ⟨nm, q, N, bs, bm, sn, sub, ab, col, dd, k0, k1, k2, k3, k5, hC, hbm⟩ := T.cls
  have hcl : clsIn K C = some { name := nm, bases := bs, mro := .ref C :: bm, ns := N, qualname := q, hasDict := true, slotNames := sn, subclasses := sub, abstract := ab, collection := col, hasDel := false } := by unfold clsIn; rw [hC] <;> rfl
  refine Att.call_fn (binds := [("self", .ref x), ("ring", v)]) X hlim ho hcd hroom (BindsTo.of_eq (by first | rfl | with_unfolding_all rfl)) (by first | rfl | decide | with_unfolding_all rfl) (fun s₁ IC => ?_) rfl rfl rfl
  obtain ⟨h₁, tk₁, rfl⟩ := IC.toInCall.same
  have k : ∀ b o, s.heap.get? b = some o → h₁.get? b = some o := IC.toInCall.keep
  have hn := IC.toInCall.ns
  have hxL : s.heap.objs.size ≠ x := Nat.ne_of_gt (Heap.lt_size hx)
  have X₁ : K.In h₁ := X.keeps k
  have hx₁ := k _ _ hx
  -- self.by = by
  show wpAny _ _ (execs _ _) _ _ _
  refine wpAny_execs_cons (plainObj_wpAny_Assign_Attribute ?_)
  refine ldC (v := v) hn (by first | rfl | with_unfolding_all rfl | kernel_rfl) (ldC (v := .ref x) hn (by first | rfl | with_unfolding_all rfl | kernel_rfl) ?_)
  refine set_plain X₁ (ox := excO C t0) (od := none) ⟨hx₁, rfl, rfl, trivial⟩ T.sa ?_
  refine exc_osa X₁ hx₁ hcl (show refsVE (.ref C :: bm) = true from hbm) rfl T.noN (fun h₃ tk₃ dx k₃ dn dne hx₃ hn₃ => ?_)
  show wpAny _ _ (execs _ _) _ _ _
  have z : s.heap.objs.size < h₁.objs.size := hn.lt
  exact wpAny_execs_nil (hq h₃ tk₃ dx ⟨fun b o hb e => k₃ b o hb (k b o e), hx₃, Nat.le_of_lt (Nat.lt_of_lt_of_le z dn), dne, hn₃⟩)
theorem low_made (T : LowTxt K mg C fI) {v : Value} (X : K.In s.heap) (hlim : s.heap.NoLimit) (hroom : A.depth + 1 < recursionLimit)
    (hq : ∀ h' tk e d, OwnMade s.heap h' e C d v → R (.ok (.ret (.ref e))) { s with heap := h', toks := tk }) :
    codeAny (model prog w) A (.call (.ref C) ⟨[v], []⟩) R s := by
  obtain ⟨nm, q, N, bs, bm, sn, sub, ab, col, dd, k0, k1, k2, k3, k5, hC, hbm⟩ := T.cls
  obtain ⟨hp, g, dr, tk, os⟩ := s
  have k : ∀ b o, hp.get? b = some o → ((hp.push (kdv_tup [v])).push (excO C hp.objs.size)).get? b = some o := fun b o e => Heap.get?_push_of_some _ (Heap.get?_push_of_some _ e)
  have hget : ((hp.push (kdv_tup [v])).push (excO C hp.objs.size)).get? (hp.objs.size + 1) = some (excO C hp.objs.size) := by heap_get
  have hnx : K.lookup (hp.objs.size + 1) = none := by
    cases e : K.lookup (hp.objs.size + 1) with
    | none => rfl
    | some o =>
      have z : hp.get? (hp.objs.size + 1) = some o := X _ _ e
      exact absurd (Nat.lt_of_succ_lt (Heap.lt_size z)) (Nat.lt_irrefl _)
  refine call_own F.excBase_ValueError (fun X => refsVE_contains X bm hbm) (X _ _ hC) (looks_findIn X T.iC) (fun self => bind_fn X self T.tC) (one_size v) ?_
  refine low_init (s := ⟨(hp.push (kdv_tup [v])).push (excO C hp.objs.size), g, dr, tk, os⟩) T (X.keeps k) (hlim.keeps k) hget hnx ?_ fun h' tk' dx ⟨k', hx, dn, dne, hns⟩ => ?_
  · show A.depth + 1 < recursionLimit
    exact hroom
  · have old : ∀ b o, hp.get? b = some o → h'.get? b = some o := fun b o e => k' b o (Nat.ne_of_lt (Nat.lt_succ_of_lt (Heap.lt_size e))) (k b o e)
    have z : hp.objs.size + 1 + 1 ≤ dx := by
      first
        | (simpa only [Heap.size_push] using dn)
        | exact dn
        | (have q := dn; rw [Heap.size_push, Heap.size_push] at q; exact q)
    exact ⟨rfl, hq h' tk' (hp.objs.size + 1) dx ⟨old, Nat.le_succ _, ⟨_, _, hx, rfl, rfl, rfl, rfl⟩, Nat.le_trans (Nat.le_trans (Nat.le_succ _) (Nat.le_succ _)) z, dne, hns⟩⟩
theorem low_initK (T : LowTxt K mg C fI) {x t0 : Addr} {v : Value} (X : K.In s.heap) (hlim : s.heap.NoLimit) (hx : s.heap.get? x = some (excO C t0)) (hnx : K.lookup x = none) (hroom : A.depth < recursionLimit)
    (hq : ∀ h' tk dx, InitEnd s.heap h' x C dx t0 v → R (.ok (.ret .none)) { s with heap := h', toks := tk }) :
    codeAny (model prog w) A (.call (.ref fI) ⟨[.ref x], [("ring", v)]⟩) R s := by
  obtain ⟨oc, od, doc, pm, an, cdv, ct, osl, p1, p2, q1, q2, q3, q4, ho, hcd⟩ := T.fn
  obtain ⟨nm, q, N, bs, bm, sn, sub, ab, col, dd, k0, k1, k2, k3, k5, hC, hbm⟩ := T.cls
  have hcl : clsIn K C = some { name := nm, bases := bs, mro := .ref C :: bm, ns := N, qualname := q, hasDict := true, slotNames := sn, subclasses := sub, abstract := ab, collection := col, hasDel := false } := by unfold clsIn; rw [hC] <;> rfl
  refine Att.call_fn (binds := [("self", .ref x), ("ring", v)]) X hlim ho hcd hroom (BindsTo.of_eq (by first | rfl | with_unfolding_all rfl)) (by first | rfl | decide | with_unfolding_all rfl) (fun s₁ IC => ?_) rfl rfl rfl
  obtain ⟨h₁, tk₁, rfl⟩ := IC.toInCall.same
  have k : ∀ b o, s.heap.get? b = some o → h₁.get? b = some o := IC.toInCall.keep
  have hn := IC.toInCall.ns
  have hxL : s.heap.objs.size ≠ x := Nat.ne_of_gt (Heap.lt_size hx)
  have X₁ : K.In h₁ := X.keeps k
  have hx₁ := k _ _ hx
  -- self.by = by
  show wpAny _ _ (execs _ _) _ _ _
  refine wpAny_execs_cons (plainObj_wpAny_Assign_Attribute ?_)
  refine ldC (v := v) hn (by first | rfl | with_unfolding_all rfl | kernel_rfl) (ldC (v := .ref x) hn (by first | rfl | with_unfolding_all rfl | kernel_rfl) ?_)
  refine set_plain X₁ (ox := excO C t0) (od := none) ⟨hx₁, rfl, rfl, trivial⟩ T.sa ?_
  refine exc_osa X₁ hx₁ hcl (show refsVE (.ref C :: bm) = true from hbm) rfl T.noN (fun h₃ tk₃ dx k₃ dn dne hx₃ hn₃ => ?_)
  show wpAny _ _ (execs _ _) _ _ _
  have z : s.heap.objs.size < h₁.objs.size := hn.lt
  exact wpAny_execs_nil (hq h₃ tk₃ dx ⟨fun b o hb e => k₃ b o hb (k b o e), hx₃, Nat.le_of_lt (Nat.lt_of_lt_of_le z dn), dne, hn₃⟩)
theorem low_madeK (T : LowTxt K mg C fI) {v : Value} (X : K.In s.heap) (hlim : s.heap.NoLimit) (hroom : A.depth + 1 < recursionLimit)
    (hq : ∀ h' tk e d, OwnMade s.heap h' e C d v → R (.ok (.ret (.ref e))) { s with heap := h', toks := tk }) :
    codeAny (model prog w) A (.call (.ref C) ⟨[], [("ring", v)]⟩) R s := by
  obtain ⟨nm, q, N, bs, bm, sn, sub, ab, col, dd, k0, k1, k2, k3, k5, hC, hbm⟩ := T.cls
  obtain ⟨hp, g, dr, tk, os⟩ := s
  have k : ∀ b o, hp.get? b = some o → ((hp.push (kdv_tup [])).push (excO C hp.objs.size)).get? b = some o := fun b o e => Heap.get?_push_of_some _ (Heap.get?_push_of_some _ e)
  have hget : ((hp.push (kdv_tup [])).push (excO C hp.objs.size)).get? (hp.objs.size + 1) = some (excO C hp.objs.size) := by heap_get
  have hnx : K.lookup (hp.objs.size + 1) = none := by
    cases e : K.lookup (hp.objs.size + 1) with
    | none => rfl
    | some o =>
      have z : hp.get? (hp.objs.size + 1) = some o := X _ _ e
      exact absurd (Nat.lt_of_succ_lt (Heap.lt_size z)) (Nat.lt_irrefl _)
  refine call_kw F.excBase_ValueError (fun X => refsVE_contains X bm hbm) (X _ _ hC) (looks_findIn X T.iC) (fun self => bind_fn X self T.tC) ?_
  refine low_initK (s := ⟨(hp.push (kdv_tup [])).push (excO C hp.objs.size), g, dr, tk, os⟩) T (X.keeps k) (hlim.keeps k) hget hnx ?_ fun h' tk' dx ⟨k', hx, dn, dne, hns⟩ => ?_
  · show A.depth + 1 < recursionLimit
    exact hroom
  · have old : ∀ b o, hp.get? b = some o → h'.get? b = some o := fun b o e => k' b o (Nat.ne_of_lt (Nat.lt_succ_of_lt (Heap.lt_size e))) (k b o e)
    have z : hp.objs.size + 1 + 1 ≤ dx := by
      first
        | (simpa only [Heap.size_push] using dn)
        | exact dn
        | (have q := dn; rw [Heap.size_push, Heap.size_push] at q; exact q)
    exact ⟨rfl, hq h' tk' (hp.objs.size + 1) dx ⟨old, Nat.le_succ _, ⟨_, _, hx, rfl, rfl, rfl, rfl⟩, Nat.le_trans (Nat.le_trans (Nat.le_succ _) (Nat.le_succ _)) z, dne, hns⟩⟩
end
end ErrRing
end PySem
namespace L2
open PySem PySem.Spec PyProof.Rows
theorem relO_low_Ring {v : V} {v' : Value} (r : RelV v v') (f : Str) : RelO (List.lookup f [(("ring" : Str), v)]) (if f = "ring" then some v' else none) := by
  by_cases hw : f = "ring"
  · subst hw
    rw [if_pos rfl]
    have q : List.lookup ("ring" : Str) [(("ring" : Str), v)] = some v := by simp [List.lookup]
    rw [q]
    exact r
  · rw [if_neg hw]
    have qw : (f == ("ring" : Str)) = false := by simpa using hw
    have q2 : List.lookup f [(("ring" : Str), v)] = none := by simp [List.lookup, qw]
    rw [q2]
    trivial
section
variable {X : Cx} {C fI : Addr}
/-- Low(e) -/
def tMkLow_Ring (C : Addr) (ta : TA) : St → Hp → XK → Prop := fun σ H Q => ta σ H fun vs H1 => ∃ v, vs = [v] ∧ ∀ d, H1 d = none → Q (.ref C) (some d) (upd H1 d (.xd [(("ring" : Str), v)]))
theorem pmk_low_Ring {a : Expr} {ta : TA} {p pos : Pos} {k : Nat} (T : PySem.ErrRing.LowTxt X.K X.mg C fI) (hr : Room k X.A) (ha : PA X [a] ta) (hg : Gl X "Ring" := by rfl)
    (he : starEach (a :: []) X.env = (false, eval a X.env) :: starEach [] X.env := by rfl) (hpl : (backTo pos (starEach [] X.env)).any (·.1) = false := by rfl) :
    PMk X (.Call (.Name "Ring" p) [a] [] pos) (tMkLow_Ring C ta) := by
  intro pins s σ H Q I h
  refine wpAny_Call_Name_kw (ld_glob I hg T.gC ?_)
  refine PySem.W.callWith_K (h₀ := X.base) I.ok.mod.kin T.kC (thn (ha.run pos pins s σ H _ I h) fun us s1 hh => ?_) he hpl
  obtain ⟨vs, H1, I1, r1, v, ev, q1⟩ := hh
  subst ev
  refine ⟨I1.kIn, ?_⟩
  cases r1 with
  | cons rv rn =>
    rename_i v' us'
    cases rn
    show wpAny _ _ (call (.ref C) [v']) _ _ _
    have hlim := I1.nolimit
    obtain ⟨hp, g, dr, tk, os⟩ := s1
    refine wpAny_call (PySem.ErrRing.low_made T I1.kIn hlim (by have := hr.dp; omega) fun h' tk' e d M => ?_)
    show MkP X pins σ Q (.ref e) ⟨h', g, dr, tk', os⟩
    obtain ⟨oe, fv, hoe, hc, hd, hdat, h1⟩ := M.obj
    have hns := M.ns
    obtain ⟨G', g1, g2⟩ := restrict h' fun b => decide (b ≠ e)
    have gk : ∀ b, b ≠ e → G'.get? b = h'.get? b := fun b hb => g1 b (decide_eq_true hb)
    have ge : G'.get? e = none := g2 e (by simp)
    have old : ∀ b o, hp.get? b = some o → G'.get? b = some o := fun b o q => (gk b (Nat.ne_of_lt (Nat.lt_of_lt_of_le (Heap.lt_size q) M.new))).trans (M.keep b o q)
    have ob : ObjOk X.prog X.w (upd H1 d (.xd [(("ring" : Str), v)])) G' d (.xd [(("ring" : Str), v)]) :=
      ⟨_, hns.at (fun o q => (gk d M.dne).trans q), fun f => relO_low_Ring rv f⟩
    have J : Inv X pins σ (upd H1 d (.xd [(("ring" : Str), v)])) ⟨G', g, dr, tk', os⟩ := I1.laid (t' := tk') old M.dbig ob
    refine ⟨e, oe, fv, ⟨G', g, dr, tk', os⟩, _, .ref C, some d, rfl, J, fun b o q => ?_, ge, hoe, ⟨hc, hd⟩, hdat, h1, ?_, rfl, I1.bare, raises_own T.exC T.tyC, q1 d (I1.hok.fresh M.dbig)⟩
    · by_cases hb : b = e
      · have q' : G'.get? b = some o := q
        rw [hb, ge] at q'; cases q'
      · exact (gk b hb).symm.trans q
    · rw [upd_ne (Ne.symm M.dne)]
      exact I1.hok.fresh M.new
/-- raise Low(e) -/
def tRaiseLow_Ring (C : Addr) (W : WX) (ta : TA) : TS := fun _ σ H => tMkLow_Ring C ta σ H fun cls d H' => W cls d σ H'
theorem ps_raiseLow_Ring {a : Expr} {ta : TA} {W : WX} {p pos pos2 : Pos} {k : Nat} (hc : X.calm = true) (T : PySem.ErrRing.LowTxt X.K X.mg C fI) (hr : Room k X.A) (tk : Takes X W) (ha : PA X [a] ta) (hg : Gl X "Ring" := by rfl)
    (he : starEach (a :: []) X.env = (false, eval a X.env) :: starEach [] X.env := by rfl) (hpl : (backTo pos (starEach [] X.env)).any (·.1) = false := by rfl) :
    PS X (.Raise (some (.Call (.Name "Ring" p) [a] [] pos)) none pos2) (tRaiseLow_Ring C W ta) := ps_raise hc tk (pmk_low_Ring T hr ha hg he hpl)
/-- C(f = e).f -/
theorem pe_namk_Ring {e : Expr} {te : TE} {p kp pos pos2 : Pos} {k : Nat} (T : PySem.ErrRing.LowTxt X.K X.mg C fI) (hr : Room k X.A) (he : PE X e te) (hg : Gl X "Ring" := by rfl)
    (hall : (backToKw pos (keywordEach [⟨some "ring", e, kp⟩] X.env)).all (·.1.isSome) = true := by rfl) (hks : (backToKw pos (keywordEach [⟨some "ring", e, kp⟩] X.env)).filterMap (·.1) = [("ring" : Str)] := by rfl)
    (hpl : ((backTo pos (starEach [] X.env)).any (·.1) || (backToKw pos (keywordEach [⟨some "ring", e, kp⟩] X.env)).any (·.1.isNone)) = false := by rfl)
    (hb : attributeBase (.Call (.Name "Ring" p) [] [⟨some "ring", e, kp⟩] pos) "ring" X.env (eval (.Call (.Name "Ring" p) [] [⟨some "ring", e, kp⟩] pos) X.env) = eval (.Call (.Name "Ring" p) [] [⟨some "ring", e, kp⟩] pos) X.env := by rfl) :
    PE X (.Attribute (.Call (.Name "Ring" p) [] [⟨some "ring", e, kp⟩] pos) "ring" pos2) te := by
  refine ⟨fun pins s σ H Q I h => ?_⟩
  refine attr_of hb ?_
  refine wpAny_Call_Name_kw (ld_glob I hg T.gC ?_)
  refine PySem.W.callWith_KW0 (h₀ := X.base) I.ok.mod.kin T.kC hall (thn ((pk_one he).run pos pins s σ H (fun zs H2 => match zs with | [v] => Q v H2 | _ => False) I h) fun us s1 hh => ?_) hpl
  obtain ⟨vs, H1, I1, r1, q1⟩ := hh
  refine ⟨I1.kIn, ?_⟩
  rw [hks]
  match vs, us, r1, q1 with
  | [v], [v'], .cons rv .nil, q1 =>
    have hlim := I1.nolimit
    obtain ⟨hp, g, dr, tk, os⟩ := s1
    refine wpAny_call (PySem.ErrRing.low_madeK T I1.kIn hlim (by have := hr.dp; omega) fun h' tk' e d M => ?_)
    show wpAny _ _ (getAttr (.ref e) "ring" true) _ _ ⟨h', g, dr, tk', os⟩
    obtain ⟨oe, fv, hoe, hc, hd, hdat, h1⟩ := M.obj
    obtain ⟨od, hod, hl⟩ := lookIn_ns M.ns
    have J : PySem.W.InstAt h' e oe C (some od) := ⟨hoe, hc, by unfold PySem.W.notCls; rw [hdat] <;> rfl, by rw [hd]; exact hod⟩
    have I2 : Inv X pins σ H1 ⟨h', g, dr, tk', os⟩ := I1.kept (t' := tk') M.keep
    exact HandSPX.exc_get I2.kIn J T.ga T.gg T.exC (PySem.W.findObj_own T.hdC T.noN rfl (by rw [hl, if_pos rfl])) (handed_of rv) ⟨v, H1, I2.tok _, rv, q1⟩
end
end L2
namespace PySem
namespace ErrBadThing
open PySem.W PySem.Calls PyProof.Rows PySem.HandSPX
def iA (p1 p2 : Pos) : Arguments := { posonlyargs := [], args := [{ arg := "self", annotation := none, pos := p1 }, { arg := "thing", annotation := none, pos := p2 }], vararg := none, kwonlyargs := [], kw_defaults := [], kwarg := none, defaults := [] }
def iB (q1 q2 q3 q4 : Pos) : List Stmt := [.Assign [.Attribute (.Name "self" q1) "thing" q2] (.Name "thing" q3) q4]
def iS : Scope := { kind := .function, names := [(PySem.Str.ofString "self", .local), (PySem.Str.ofString "thing", .local)], isGenerator := false, isCoroutine := false, more := [] }
/-- what the written part says of Low, at C, and of its __init__, at fI -/
structure LowTxt (K : Frag) (mg : Str → Option Value) (C fI : Addr) : Prop where
  gC : mg "BadThing" = some (.ref C)
  cls : ∃ nm q N bs bm sn sub ab col dd k0 k1 k2 k3 k5, K.lookup C = some (excClassObj nm q C N bs bm true sn sub ab col dd k0 k1 k2 k3 k5 "ValueError.__new__") ∧ refsVE bm = true
  sa : findIn K (.ref C) "__setattr__" = some (some (.builtin "object.__setattr__"))
  ga : findIn K (.ref C) "__getattribute__" = some (some (.builtin "BaseException.__getattribute__"))
  gg : findIn K (.ref C) "__getattr__" = some none
  noN : findIn K (.ref C) "thing" = some none
  iC : findIn K (.ref C) "__init__" = some (some (.ref fI))
  tC : typeIn K (.ref fI) = some (.type "function")
  kC : keepIn K (.ref C) = true
  exC : subIn K (.ref C) (.type "BaseException") = some true
  tyC : typeIn K (.ref C) = some (.type "type")
  hdC : hasDictIn K C = true
  te : exmOne K (.ref C) (.ref C) = some true
  fn : ∃ (oc : Value) (od : Option Addr) (doc pm : Value) (an : Option Addr) (cdv ct : Value) (osl : Array (Option Value)) (p1 p2 q1 q2 q3 q4 : Pos),
    K.lookup fI = some ⟨oc, od, .func (fnOf "__init__" "BadThing.__init__" (iA p1 p2) (iB q1 q2 q3 q4) iS .none .none doc pm an cdv ct), osl⟩ ∧ codeIn K cdv "BadThing.__init__" = true
theorem one_size (v : Value) : [v].length ≤ sizeLine := by
  rw [sizeLine_eq]
  exact (by decide : 1 ≤ 16777216)
theorem ldC {M : Model} {s : Shared} {name : Str} {scope : Scope} {L a : Addr} {cd : Value} {m : Str → Option Value} {x : Str} {pos : Pos} {v : Value} {Q : Value → Shared → Prop} {A : Around} {E : Value → Shared → Prop} (hn : s.heap.Ns L m) (hv : m x = some v) (h : Q v s)
    (hk : scope.kind = .function := by rfl) (hl : (envOfC name scope L a cd).kindOf x = some .local := by rfl) (hd : (x == ("__debug__" : Str)) = false := by decide) :
    wpAny M A (eval (.Name x pos) (envOfC name scope L a cd)) Q E s := wpAny_Name (wpAny_loadName_local hk hl hn hv h) hd
/-- what __init__ leaves of a fresh exception at x -/
structure InitEnd (h h' : Heap) (x C dx t1 : Addr) (v : Value) : Prop where
  keep : ∀ b o, b ≠ x → h.get? b = some o → h'.get? b = some o
  obj : h'.get? x = some { cls := .ref C, dict := some dx, data := .fields #[.ref t1, .none, .none, .none, .bool false, .none] }
  dbig : h.objs.size ≤ dx
  dne : dx ≠ x
  ns : h'.Ns1 dx (fun y => if y = "thing" then some v else none)
/-- a made Low -/
structure OwnMade (h h' : Heap) (e C d : Addr) (v : Value) : Prop where
  keep : ∀ b o, h.get? b = some o → h'.get? b = some o
  new : h.objs.size ≤ e
  obj : ∃ oe vs, h'.get? e = some oe ∧ oe.cls = .ref C ∧ oe.dict = some d ∧ oe.data = .fields vs ∧ vs[1]? = some .none
  dbig : h.objs.size ≤ d
  dne : d ≠ e
  ns : h'.Ns1 d (fun y => if y = "thing" then some v else none)
section
variable {prog : Program} {w : World} {A : Around} {E : Value → Shared → Prop} {R : Result → Shared → Prop} {s : Shared} {K : Frag} {mg : Str → Option Value} {C fI : Addr}
theorem low_init (T : LowTxt K mg C fI) {x t0 : Addr} {v : Value} (X : K.In s.heap) (hlim : s.heap.NoLimit) (hx : s.heap.get? x = some (excO C t0)) (hnx : K.lookup x = none) (hroom : A.depth < recursionLimit)
    (hq : ∀ h' tk dx, InitEnd s.heap h' x C dx t0 v → R (.ok (.ret .none)) { s with heap := h', toks := tk }) :
    codeAny (model prog w) A (.call (.ref fI) ⟨[.ref x, v], []⟩) R s := by
  obtain ⟨oc, od, doc, pm, an, cdv, ct, osl, p1, p2, q1, q2, q3, q4, ho, hcd⟩ := T.fn
  obtain ⟨nm, q, N, bs, bm, sn, sub, ab, col, dd, k0, k1, k2, k3, k5, hC, hbm⟩ := T.cls
  have hcl : clsIn K C = some { name := nm, bases := bs, mro := .ref C :: bm, ns := N, qualname := q, hasDict := true, slotNames := sn, subclasses := sub, abstract := ab, collection := col, hasDel := false } := by unfold clsIn; rw [hC] <;> rfl
  refine Att.call_fn (binds := [("self", .ref x), ("thing", v)]) X hlim ho hcd hroom (BindsTo.of_eq (by first | rfl | with_unfolding_all rfl)) (by first | rfl | decide | with_unfolding_all rfl) (fun s₁ IC => ?_) rfl rfl rfl
  obtain ⟨h₁, tk₁, rfl⟩ := IC.toInCall.same
  have k : ∀ b o, s.heap.get? b = some o → h₁.get? b = some o := IC.toInCall.keep
  have hn := IC.toInCall.ns
  have hxL : s.heap.objs.size ≠ x := Nat.ne_of_gt (Heap.lt_size hx)
  have X₁ : K.In h₁ := X.keeps k
  have hx₁ := k _ _ hx
  -- self.by = by
  show wpAny _ _ (execs _ _) _ _ _
  refine wpAny_execs_cons (plainObj_wpAny_Assign_Attribute ?_)
  refine ldC (v := v) hn (by first | rfl | with_unfolding_all rfl | kernel_rfl) (ldC (v := .ref x) hn (by first | rfl | with_unfolding_all rfl | kernel_rfl) ?_)
  refine set_plain X₁ (ox := excO C t0) (od := none) ⟨hx₁, rfl, rfl, trivial⟩ T.sa ?_
  refine exc_osa X₁ hx₁ hcl (show refsVE (.ref C :: bm) = true from hbm) rfl T.noN (fun h₃ tk₃ dx k₃ dn dne hx₃ hn₃ => ?_)
  show wpAny _ _ (execs _ _) _ _ _
  have z : s.heap.objs.size < h₁.objs.size := hn.lt
  exact wpAny_execs_nil (hq h₃ tk₃ dx ⟨fun b o hb e => k₃ b o hb (k b o e), hx₃, Nat.le_of_lt (Nat.lt_of_lt_of_le z dn), dne, hn₃⟩)
theorem low_made (T : LowTxt K mg C fI) {v : Value} (X : K.In s.heap) (hlim : s.heap.NoLimit) (hroom : A.depth + 1 < recursionLimit)
    (hq : ∀ h' tk e d, OwnMade s.heap h' e C d v → R (.ok (.ret (.ref e))) { s with heap := h', toks := tk }) :
    codeAny (model prog w) A (.call (.ref C) ⟨[v], []⟩) R s := by
  obtain ⟨nm, q, N, bs, bm, sn, sub, ab, col, dd, k0, k1, k2, k3, k5, hC, hbm⟩ := T.cls
  obtain ⟨hp, g, dr, tk, os⟩ := s
  have k : ∀ b o, hp.get? b = some o → ((hp.push (kdv_tup [v])).push (excO C hp.objs.size)).get? b = some o := fun b o e => Heap.get?_push_of_some _ (Heap.get?_push_of_some _ e)
  have hget : ((hp.push (kdv_tup [v])).push (excO C hp.objs.size)).get? (hp.objs.size + 1) = some (excO C hp.objs.size) := by heap_get
  have hnx : K.lookup (hp.objs.size + 1) = none := by
    cases e : K.lookup (hp.objs.size + 1) with
    | none => rfl
    | some o =>
      have z : hp.get? (hp.objs.size + 1) = some o := X _ _ e
      exact absurd (Nat.lt_of_succ_lt (Heap.lt_size z)) (Nat.lt_irrefl _)
  refine call_own F.excBase_ValueError (fun X => refsVE_contains X bm hbm) (X _ _ hC) (looks_findIn X T.iC) (fun self => bind_fn X self T.tC) (one_size v) ?_
  refine low_init (s := ⟨(hp.push (kdv_tup [v])).push (excO C hp.objs.size), g, dr, tk, os⟩) T (X.keeps k) (hlim.keeps k) hget hnx ?_ fun h' tk' dx ⟨k', hx, dn, dne, hns⟩ => ?_
  · show A.depth + 1 < recursionLimit
    exact hroom
  · have old : ∀ b o, hp.get? b = some o → h'.get? b = some o := fun b o e => k' b o (Nat.ne_of_lt (Nat.lt_succ_of_lt (Heap.lt_size e))) (k b o e)
    have z : hp.objs.size + 1 + 1 ≤ dx := by
      first
        | (simpa only [Heap.size_push] using dn)
        | exact dn
        | (have q := dn; rw [Heap.size_push, Heap.size_push] at q; exact q)
    exact ⟨rfl, hq h' tk' (hp.objs.size + 1) dx ⟨old, Nat.le_succ _, ⟨_, _, hx, rfl, rfl, rfl, rfl⟩, Nat.le_trans (Nat.le_trans (Nat.le_succ _) (Nat.le_succ _)) z, dne, hns⟩⟩
theorem low_initK (T : LowTxt K mg C fI) {x t0 : Addr} {v : Value} (X : K.In s.heap) (hlim : s.heap.NoLimit) (hx : s.heap.get? x = some (excO C t0)) (hnx : K.lookup x = none) (hroom : A.depth < recursionLimit)
    (hq : ∀ h' tk dx, InitEnd s.heap h' x C dx t0 v → R (.ok (.ret .none)) { s with heap := h', toks := tk }) :
    codeAny (model prog w) A (.call (.ref fI) ⟨[.ref x], [("thing", v)]⟩) R s := by
  obtain ⟨oc, od, doc, pm, an, cdv, ct, osl, p1, p2, q1, q2, q3, q4, ho, hcd⟩ := T.fn
  obtain ⟨nm, q, N, bs, bm, sn, sub, ab, col, dd, k0, k1, k2, k3, k5, hC, hbm⟩ := T.cls
  have hcl : clsIn K C = some { name := nm, bases := bs, mro := .ref C :: bm, ns := N, qualname := q, hasDict := true, slotNames := sn, subclasses := sub, abstract := ab, collection := col, hasDel := false } := by unfold clsIn; rw [hC] <;> rfl
  refine Att.call_fn (binds := [("self", .ref x), ("thing", v)]) X hlim ho hcd hroom (BindsTo.of_eq (by first | rfl | with_unfolding_all rfl)) (by first | rfl | decide | with_unfolding_all rfl) (fun s₁ IC => ?_) rfl rfl rfl
  obtain ⟨h₁, tk₁, rfl⟩ := IC.toInCall.same
  have k : ∀ b o, s.heap.get? b = some o → h₁.get? b = some o := IC.toInCall.keep
  have hn := IC.toInCall.ns
  have hxL : s.heap.objs.size ≠ x := Nat.ne_of_gt (Heap.lt_size hx)
  have X₁ : K.In h₁ := X.keeps k
  have hx₁ := k _ _ hx
  -- self.by = by
  show wpAny _ _ (execs _ _) _ _ _
  refine wpAny_execs_cons (plainObj_wpAny_Assign_Attribute ?_)
  refine ldC (v := v) hn (by first | rfl | with_unfolding_all rfl | kernel_rfl) (ldC (v := .ref x) hn (by first | rfl | with_unfolding_all rfl | kernel_rfl) ?_)
  refine set_plain X₁ (ox := excO C t0) (od := none) ⟨hx₁, rfl, rfl, trivial⟩ T.sa ?_
  refine exc_osa X₁ hx₁ hcl (show refsVE (.ref C :: bm) = true from hbm) rfl T.noN (fun h₃ tk₃ dx k₃ dn dne hx₃ hn₃ => ?_)
  show wpAny _ _ (execs _ _) _ _ _
  have z : s.heap.objs.size < h₁.objs.size := hn.lt
  exact wpAny_execs_nil (hq h₃ tk₃ dx ⟨fun b o hb e => k₃ b o hb (k b o e), hx₃, Nat.le_of_lt (Nat.lt_of_lt_of_le z dn), dne, hn₃⟩)
theorem low_madeK (T : LowTxt K mg C fI) {v : Value} (X : K.In s.heap) (hlim : s.heap.NoLimit) (hroom : A.depth + 1 < recursionLimit)
    (hq : ∀ h' tk e d, OwnMade s.heap h' e C d v → R (.ok (.ret (.ref e))) { s with heap := h', toks := tk }) :
    codeAny (model prog w) A (.call (.ref C) ⟨[], [("thing", v)]⟩) R s := by
  obtain ⟨nm, q, N, bs, bm, sn, sub, ab, col, dd, k0, k1, k2, k3, k5, hC, hbm⟩ := T.cls
  obtain ⟨hp, g, dr, tk, os⟩ := s
  have k : ∀ b o, hp.get? b = some o → ((hp.push (kdv_tup [])).push (excO C hp.objs.size)).get? b = some o := fun b o e => Heap.get?_push_of_some _ (Heap.get?_push_of_some _ e)
  have hget : ((hp.push (kdv_tup [])).push (excO C hp.objs.size)).get? (hp.objs.size + 1) = some (excO C hp.objs.size) := by heap_get
  have hnx : K.lookup (hp.objs.size + 1) = none := by
    cases e : K.lookup (hp.objs.size + 1) with
    | none => rfl
    | some o =>
      have z : hp.get? (hp.objs.size + 1) = some o := X _ _ e
      exact absurd (Nat.lt_of_succ_lt (Heap.lt_size z)) (Nat.lt_irrefl _)
  refine call_kw F.excBase_ValueError (fun X => refsVE_contains X bm hbm) (X _ _ hC) (looks_findIn X T.iC) (fun self => bind_fn X self T.tC) ?_
  refine low_initK (s := ⟨(hp.push (kdv_tup [])).push (excO C hp.objs.size), g, dr, tk, os⟩) T (X.keeps k) (hlim.keeps k) hget hnx ?_ fun h' tk' dx ⟨k', hx, dn, dne, hns⟩ => ?_
  · show A.depth + 1 < recursionLimit
    exact hroom
  · have old : ∀ b o, hp.get? b = some o → h'.get? b = some o := fun b o e => k' b o (Nat.ne_of_lt (Nat.lt_succ_of_lt (Heap.lt_size e))) (k b o e)
    have z : hp.objs.size + 1 + 1 ≤ dx := by
      first
        | (simpa only [Heap.size_push] using dn)
        | exact dn
        | (have q := dn; rw [Heap.size_push, Heap.size_push] at q; exact q)
    exact ⟨rfl, hq h' tk' (hp.objs.size + 1) dx ⟨old, Nat.le_succ _, ⟨_, _, hx, rfl, rfl, rfl, rfl⟩, Nat.le_trans (Nat.le_trans (Nat.le_succ _) (Nat.le_succ _)) z, dne, hns⟩⟩
end
end ErrBadThing
end PySem
namespace L2
open PySem PySem.Spec PyProof.Rows
theorem relO_low_BadThing {v : V} {v' : Value} (r : RelV v v') (f : Str) : RelO (List.lookup f [(("thing" : Str), v)]) (if f = "thing" then some v' else none) := by
  by_cases hw : f = "thing"
  · subst hw
    rw [if_pos rfl]
    have q : List.lookup ("thing" : Str) [(("thing" : Str), v)] = some v := by simp [List.lookup]
    rw [q]
    exact r
  · rw [if_neg hw]
    have qw : (f == ("thing" : Str)) = false := by simpa using hw
    have q2 : List.lookup f [(("thing" : Str), v)] = none := by simp [List.lookup, qw]
    rw [q2]
    trivial
section
variable {X : Cx} {C fI : Addr}
/-- Low(e) -/
def tMkLow_BadThing (C : Addr) (ta : TA) : St → Hp → XK → Prop := fun σ H Q => ta σ H fun vs H1 => ∃ v, vs = [v] ∧ ∀ d, H1 d = none → Q (.ref C) (some d) (upd H1 d (.xd [(("thing" : Str), v)]))
theorem pmk_low_BadThing {a : Expr} {ta : TA} {p pos : Pos} {k : Nat} (T : PySem.ErrBadThing.LowTxt X.K X.mg C fI) (hr : Room k X.A) (ha : PA X [a] ta) (hg : Gl X "BadThing" := by rfl)
    (he : starEach (a :: []) X.env = (false, eval a X.env) :: starEach [] X.env := by rfl) (hpl : (backTo pos (starEach [] X.env)).any (·.1) = false := by rfl) :
    PMk X (.Call (.Name "BadThing" p) [a] [] pos) (tMkLow_BadThing C ta) := by
  intro pins s σ H Q I h
  refine wpAny_Call_Name_kw (ld_glob I hg T.gC ?_)
  refine PySem.W.callWith_K (h₀ := X.base) I.ok.mod.kin T.kC (thn (ha.run pos pins s σ H _ I h) fun us s1 hh => ?_) he hpl
  obtain ⟨vs, H1, I1, r1, v, ev, q1⟩ := hh
  subst ev
  refine ⟨I1.kIn, ?_⟩
  cases r1 with
  | cons rv rn =>
    rename_i v' us'
    cases rn
    show wpAny _ _ (call (.ref C) [v']) _ _ _
    have hlim := I1.nolimit
    obtain ⟨hp, g, dr, tk, os⟩ := s1
    refine wpAny_call (PySem.ErrBadThing.low_made T I1.kIn hlim (by have := hr.dp; omega) fun h' tk' e d M => ?_)
    show MkP X pins σ Q (.ref e) ⟨h', g, dr, tk', os⟩
    obtain ⟨oe, fv, hoe, hc, hd, hdat, h1⟩ := M.obj
    have hns := M.ns
    obtain ⟨G', g1, g2⟩ := restrict h' fun b => decide (b ≠ e)
    have gk : ∀ b, b ≠ e → G'.get? b = h'.get? b := fun b hb => g1 b (decide_eq_true hb)
    have ge : G'.get? e = none := g2 e (by simp)
    have old : ∀ b o, hp.get? b = some o → G'.get? b = some o := fun b o q => (gk b (Nat.ne_of_lt (Nat.lt_of_lt_of_le (Heap.lt_size q) M.new))).trans (M.keep b o q)
    have ob : ObjOk X.prog X.w (upd H1 d (.xd [(("thing" : Str), v)])) G' d (.xd [(("thing" : Str), v)]) :=
      ⟨_, hns.at (fun o q => (gk d M.dne).trans q), fun f => relO_low_BadThing rv f⟩
    have J : Inv X pins σ (upd H1 d (.xd [(("thing" : Str), v)])) ⟨G', g, dr, tk', os⟩ := I1.laid (t' := tk') old M.dbig ob
    refine ⟨e, oe, fv, ⟨G', g, dr, tk', os⟩, _, .ref C, some d, rfl, J, fun b o q => ?_, ge, hoe, ⟨hc, hd⟩, hdat, h1, ?_, rfl, I1.bare, raises_own T.exC T.tyC, q1 d (I1.hok.fresh M.dbig)⟩
    · by_cases hb : b = e
      · have q' : G'.get? b = some o := q
        rw [hb, ge] at q'; cases q'
      · exact (gk b hb).symm.trans q
    · rw [upd_ne (Ne.symm M.dne)]
      exact I1.hok.fresh M.new
/-- raise Low(e) -/
def tRaiseLow_BadThing (C : Addr) (W : WX) (ta : TA) : TS := fun _ σ H => tMkLow_BadThing C ta σ H fun cls d H' => W cls d σ H'
theorem ps_raiseLow_BadThing {a : Expr} {ta : TA} {W : WX} {p pos pos2 : Pos} {k : Nat} (hc : X.calm = true) (T : PySem.ErrBadThing.LowTxt X.K X.mg C fI) (hr : Room k X.A) (tk : Takes X W) (ha : PA X [a] ta) (hg : Gl X "BadThing" := by rfl)
    (he : starEach (a :: []) X.env = (false, eval a X.env) :: starEach [] X.env := by rfl) (hpl : (backTo pos (starEach [] X.env)).any (·.1) = false := by rfl) :
    PS X (.Raise (some (.Call (.Name "BadThing" p) [a] [] pos)) none pos2) (tRaiseLow_BadThing C W ta) := ps_raise hc tk (pmk_low_BadThing T hr ha hg he hpl)
/-- C(f = e).f -/
theorem pe_namk_BadThing {e : Expr} {te : TE} {p kp pos pos2 : Pos} {k : Nat} (T : PySem.ErrBadThing.LowTxt X.K X.mg C fI) (hr : Room k X.A) (he : PE X e te) (hg : Gl X "BadThing" := by rfl)
    (hall : (backToKw pos (keywordEach [⟨some "thing", e, kp⟩] X.env)).all (·.1.isSome) = true := by rfl) (hks : (backToKw pos (keywordEach [⟨some "thing", e, kp⟩] X.env)).filterMap (·.1) = [("thing" : Str)] := by rfl)
    (hpl : ((backTo pos (starEach [] X.env)).any (·.1) || (backToKw pos (keywordEach [⟨some "thing", e, kp⟩] X.env)).any (·.1.isNone)) = false := by rfl)
    (hb : attributeBase (.Call (.Name "BadThing" p) [] [⟨some "thing", e, kp⟩] pos) "thing" X.env (eval (.Call (.Name "BadThing" p) [] [⟨some "thing", e, kp⟩] pos) X.env) = eval (.Call (.Name "BadThing" p) [] [⟨some "thing", e, kp⟩] pos) X.env := by rfl) :
    PE X (.Attribute (.Call (.Name "BadThing" p) [] [⟨some "thing", e, kp⟩] pos) "thing" pos2) te := by
  refine ⟨fun pins s σ H Q I h => ?_⟩
  refine attr_of hb ?_
  refine wpAny_Call_Name_kw (ld_glob I hg T.gC ?_)
  refine PySem.W.callWith_KW0 (h₀ := X.base) I.ok.mod.kin T.kC hall (thn ((pk_one he).run pos pins s σ H (fun zs H2 => match zs with | [v] => Q v H2 | _ => False) I h) fun us s1 hh => ?_) hpl
  obtain ⟨vs, H1, I1, r1, q1⟩ := hh
  refine ⟨I1.kIn, ?_⟩
  rw [hks]
  match vs, us, r1, q1 with
  | [v], [v'], .cons rv .nil, q1 =>
    have hlim := I1.nolimit
    obtain ⟨hp, g, dr, tk, os⟩ := s1
    refine wpAny_call (PySem.ErrBadThing.low_madeK T I1.kIn hlim (by have := hr.dp; omega) fun h' tk' e d M => ?_)
    show wpAny _ _ (getAttr (.ref e) "thing" true) _ _ ⟨h', g, dr, tk', os⟩
    obtain ⟨oe, fv, hoe, hc, hd, hdat, h1⟩ := M.obj
    obtain ⟨od, hod, hl⟩ := lookIn_ns M.ns
    have J : PySem.W.InstAt h' e oe C (some od) := ⟨hoe, hc, by unfold PySem.W.notCls; rw [hdat] <;> rfl, by rw [hd]; exact hod⟩
    have I2 : Inv X pins σ H1 ⟨h', g, dr, tk', os⟩ := I1.kept (t' := tk') M.keep
    exact HandSPX.exc_get I2.kIn J T.ga T.gg T.exC (PySem.W.findObj_own T.hdC T.noN rfl (by rw [hl, if_pos rfl])) (handed_of rv) ⟨v, H1, I2.tok _, rv, q1⟩
end
end L2
namespace PySem
namespace ErrNotSo
open PySem.W PySem.Calls PyProof.Rows PySem.HandSPX
def iA (p1 p2 : Pos) : Arguments := { posonlyargs := [], args := [{ arg := "self", annotation := none, pos := p1 }, { arg := "word", annotation := none, pos := p2 }], vararg := none, kwonlyargs := [], kw_defaults := [], kwarg := none, defaults := [] }
def iB (q1 q2 q3 q4 : Pos) : List Stmt := [.Assign [.Attribute (.Name "self" q1) "word" q2] (.Name "word" q3) q4]
def iS : Scope := { kind := .function, names := [(PySem.Str.ofString "self", .local), (PySem.Str.ofString "word", .local)], isGenerator := false, isCoroutine := false, more := [] }
/-- what the written part says of Low, at C, and of its __init__, at fI -/
structure LowTxt (K : Frag) (mg : Str → Option Value) (C fI : Addr) : Prop where
  gC : mg "NotSo" = some (.ref C)
  cls : ∃ nm q N bs bm sn sub ab col dd k0 k1 k2 k3 k5, K.lookup C = some (excClassObj nm q C N bs bm true sn sub ab col dd k0 k1 k2 k3 k5 "ValueError.__new__") ∧ refsVE bm = true
  sa : findIn K (.ref C) "__setattr__" = some (some (.builtin "object.__setattr__"))
  ga : findIn K (.ref C) "__getattribute__" = some (some (.builtin "BaseException.__getattribute__"))
  gg : findIn K (.ref C) "__getattr__" = some none
  noN : findIn K (.ref C) "word" = some none
  iC : findIn K (.ref C) "__init__" = some (some (.ref fI))
  tC : typeIn K (.ref fI) = some (.type "function")
  kC : keepIn K (.ref C) = true
  exC : subIn K (.ref C) (.type "BaseException") = some true
  tyC : typeIn K (.ref C) = some (.type "type")
  hdC : hasDictIn K C = true
  te : exmOne K (.ref C) (.ref C) = some true
  fn : ∃ (oc : Value) (od : Option Addr) (doc pm : Value) (an : Option Addr) (cdv ct : Value) (osl : Array (Option Value)) (p1 p2 q1 q2 q3 q4 : Pos),
    K.lookup fI = some ⟨oc, od, .func (fnOf "__init__" "NotSo.__init__" (iA p1 p2) (iB q1 q2 q3 q4) iS .none .none doc pm an cdv ct), osl⟩ ∧ codeIn K cdv "NotSo.__init__" = true
theorem one_size (v : Value) : [v].length ≤ sizeLine := by
  rw [sizeLine_eq]
  exact (by decide : 1 ≤ 16777216)
theorem ldC {M : Model} {s : Shared} {name : Str} {scope : Scope} {L a : Addr} {cd : Value} {m : Str → Option Value} {x : Str} {pos : Pos} {v : Value} {Q : Value → Shared → Prop} {A : Around} {E : Value → Shared → Prop} (hn : s.heap.Ns L m) (hv : m x = some v) (h : Q v s)
    (hk : scope.kind = .function := by rfl) (hl : (envOfC name scope L a cd).kindOf x = some .local := by rfl) (hd : (x == ("__debug__" : Str)) = false := by decide) :
    wpAny M A (eval (.Name x pos) (envOfC name scope L a cd)) Q E s := wpAny_Name (wpAny_loadName_local hk hl hn hv h) hd
/-- what __init__ leaves of a fresh exception at x -/
structure InitEnd (h h' : Heap) (x C dx t1 : Addr) (v : Value) : Prop where
  keep : ∀ b o, b ≠ x → h.get? b = some o → h'.get? b = some o
  obj : h'.get? x = some { cls := .ref C, dict := some dx, data := .fields #[.ref t1, .none, .none, .none, .bool false, .none] }
  dbig : h.objs.size ≤ dx
  dne : dx ≠ x
  ns : h'.Ns1 dx (fun y => if y = "word" then some v else none)
/-- a made Low -/
structure OwnMade (h h' : Heap) (e C d : Addr) (v : Value) : Prop where
  keep : ∀ b o, h.get? b = some o → h'.get? b = some o
  new : h.objs.size ≤ e
  obj : ∃ oe vs, h'.get? e = some oe ∧ oe.cls = .ref C ∧ oe.dict = some d ∧ oe.data = .fields vs ∧ vs[1]? = some .none
  dbig : h.objs.size ≤ d
  dne : d ≠ e
  ns : h'.Ns1 d (fun y => if y = "word" then some v else none)
section
variable {prog : Program} {w : World} {A : Around} {E : Value → Shared → Prop} {R : Result → Shared → Prop} {s : Shared} {K : Frag} {mg : Str → Option Value} {C fI : Addr}
theorem low_init (T : LowTxt K mg C fI) {x t0 : Addr} {v : Value} (X : K.In s.heap) (hlim : s.heap.NoLimit) (hx : s.heap.get? x = some (excO C t0)) (hnx : K.lookup x = none) (hroom : A.depth < recursionLimit)
    (hq : ∀ h' tk dx, InitEnd s.heap h' x C dx t0 v → R (.ok (.ret .none)) { s with heap := h', toks := tk }) :
    codeAny (model prog w) A (.call (.ref fI) ⟨[.ref x, v], []⟩) R s := by
  obtain ⟨oc, od, doc, pm, an, cdv, ct, osl, p1, p2, q1, q2, q3, q4, ho, hcd⟩ := T.fn
  obtain ⟨nm, q, N, bs, bm, sn, sub, ab, col, dd, k0, k1, k2, k3, k5, hC, hbm⟩ := T.cls
  have hcl : clsIn K C = some { name := nm, bases := bs, mro := .ref C :: bm, ns := N, qualname := q, hasDict := true, slotNames := sn, subclasses := sub, abstract := ab, collection := col, hasDel := false } := by unfold clsIn; rw [hC] <;> rfl
  refine Att.call_fn (binds := [("self", .ref x), ("word", v)]) X hlim ho hcd hroom (BindsTo.of_eq (by first | rfl | with_unfolding_all rfl)) (by first | rfl | decide | with_unfolding_all rfl) (fun s₁ IC => ?_) rfl rfl rfl
  obtain ⟨h₁, tk₁, rfl⟩ := IC.toInCall.same
  have k : ∀ b o, s.heap.get? b = some o → h₁.get? b = some o := IC.toInCall.keep
  have hn := IC.toInCall.ns
  have hxL : s.heap.objs.size ≠ x := Nat.ne_of_gt (Heap.lt_size hx)
  have X₁ : K.In h₁ := X.keeps k
  have hx₁ := k _ _ hx
  -- self.by = by
  show wpAny _ _ (execs _ _) _ _ _
  refine wpAny_execs_cons (plainObj_wpAny_Assign_Attribute ?_)
  refine ldC (v := v) hn (by first | rfl | with_unfolding_all rfl | kernel_rfl) (ldC (v := .ref x) hn (by first | rfl | with_unfolding_all rfl | kernel_rfl) ?_)
  refine set_plain X₁ (ox := excO C t0) (od := none) ⟨hx₁, rfl, rfl, trivial⟩ T.sa ?_
  refine exc_osa X₁ hx₁ hcl (show refsVE (.ref C :: bm) = true from hbm) rfl T.noN (fun h₃ tk₃ dx k₃ dn dne hx₃ hn₃ => ?_)
  show wpAny _ _ (execs _ _) _ _ _
  have z : s.heap.objs.size < h₁.objs.size := hn.lt
  exact wpAny_execs_nil (hq h₃ tk₃ dx ⟨fun b o hb e => k₃ b o hb (k b o e), hx₃, Nat.le_of_lt (Nat.lt_of_lt_of_le z dn), dne, hn₃⟩)
theorem low_made (T : LowTxt K mg C fI) {v : Value} (X : K.In s.heap) (hlim : s.heap.NoLimit) (hroom : A.depth + 1 < recursionLimit)
    (hq : ∀ h' tk e d, OwnMade s.heap h' e C d v → R (.ok (.ret (.ref e))) { s with heap := h', toks := tk }) :
    codeAny (model prog w) A (.call (.ref C) ⟨[v], []⟩) R s := by
  obtain ⟨nm, q, N, bs, bm, sn, sub, ab, col, dd, k0, k1, k2, k3, k5, hC, hbm⟩ := T.cls
  obtain ⟨hp, g, dr, tk, os⟩ := s
  have k : ∀ b o, hp.get? b = some o → ((hp.push (kdv_tup [v])).push (excO C hp.objs.size)).get? b = some o := fun b o e => Heap.get?_push_of_some _ (Heap.get?_push_of_some _ e)
  have hget : ((hp.push (kdv_tup [v])).push (excO C hp.objs.size)).get? (hp.objs.size + 1) = some (excO C hp.objs.size) := by heap_get
  have hnx : K.lookup (hp.objs.size + 1) = none := by
    cases e : K.lookup (hp.objs.size + 1) with
    | none => rfl
    | some o =>
      have z : hp.get? (hp.objs.size + 1) = some o := X _ _ e
      exact absurd (Nat.lt_of_succ_lt (Heap.lt_size z)) (Nat.lt_irrefl _)
  refine call_own F.excBase_ValueError (fun X => refsVE_contains X bm hbm) (X _ _ hC) (looks_findIn X T.iC) (fun self => bind_fn X self T.tC) (one_size v) ?_
  refine low_init (s := ⟨(hp.push (kdv_tup [v])).push (excO C hp.objs.size), g, dr, tk, os⟩) T (X.keeps k) (hlim.keeps k) hget hnx ?_ fun h' tk' dx ⟨k', hx, dn, dne, hns⟩ => ?_
  · show A.depth + 1 < recursionLimit
    exact hroom
  · have old : ∀ b o, hp.get? b = some o → h'.get? b = some o := fun b o e => k' b o (Nat.ne_of_lt (Nat.lt_succ_of_lt (Heap.lt_size e))) (k b o e)
    have z : hp.objs.size + 1 + 1 ≤ dx := by
      first
        | (simpa only [Heap.size_push] using dn)
        | exact dn
        | (have q := dn; rw [Heap.size_push, Heap.size_push] at q; exact q)
    exact ⟨rfl, hq h' tk' (hp.objs.size + 1) dx ⟨old, Nat.le_succ _, ⟨_, _, hx, rfl, rfl, rfl, rfl⟩, Nat.le_trans (Nat.le_trans (Nat.le_succ _) (Nat.le_succ _)) z, dne, hns⟩⟩
theorem low_initK (T : LowTxt K mg C fI) {x t0 : Addr} {v : Value} (X : K.In s.heap) (hlim : s.heap.NoLimit) (hx : s.heap.get? x = some (excO C t0)) (hnx : K.lookup x = none) (hroom : A.depth < recursionLimit)
    (hq : ∀ h' tk dx, InitEnd s.heap h' x C dx t0 v → R (.ok (.ret .none)) { s with heap := h', toks := tk }) :
    codeAny (model prog w) A (.call (.ref fI) ⟨[.ref x], [("word", v)]⟩) R s := by
  obtain ⟨oc, od, doc, pm, an, cdv, ct, osl, p1, p2, q1, q2, q3, q4, ho, hcd⟩ := T.fn
  obtain ⟨nm, q, N, bs, bm, sn, sub, ab, col, dd, k0, k1, k2, k3, k5, hC, hbm⟩ := T.cls
  have hcl : clsIn K C = some { name := nm, bases := bs, mro := .ref C :: bm, ns := N, qualname := q, hasDict := true, slotNames := sn, subclasses := sub, abstract := ab, collection := col, hasDel := false } := by unfold clsIn; rw [hC] <;> rfl
  refine Att.call_fn (binds := [("self", .ref x), ("word", v)]) X hlim ho hcd hroom (BindsTo.of_eq (by first | rfl | with_unfolding_all rfl)) (by first | rfl | decide | with_unfolding_all rfl) (fun s₁ IC => ?_) rfl rfl rfl
  obtain ⟨h₁, tk₁, rfl⟩ := IC.toInCall.same
  have k : ∀ b o, s.heap.get? b = some o → h₁.get? b = some o := IC.toInCall.keep
  have hn := IC.toInCall.ns
  have hxL : s.heap.objs.size ≠ x := Nat.ne_of_gt (Heap.lt_size hx)
  have X₁ : K.In h₁ := X.keeps k
  have hx₁ := k _ _ hx
  -- self.by = by
  show wpAny _ _ (execs _ _) _ _ _
  refine wpAny_execs_cons (plainObj_wpAny_Assign_Attribute ?_)
  refine ldC (v := v) hn (by first | rfl | with_unfolding_all rfl | kernel_rfl) (ldC (v := .ref x) hn (by first | rfl | with_unfolding_all rfl | kernel_rfl) ?_)
  refine set_plain X₁ (ox := excO C t0) (od := none) ⟨hx₁, rfl, rfl, trivial⟩ T.sa ?_
  refine exc_osa X₁ hx₁ hcl (show refsVE (.ref C :: bm) = true from hbm) rfl T.noN (fun h₃ tk₃ dx k₃ dn dne hx₃ hn₃ => ?_)
  show wpAny _ _ (execs _ _) _ _ _
  have z : s.heap.objs.size < h₁.objs.size := hn.lt
  exact wpAny_execs_nil (hq h₃ tk₃ dx ⟨fun b o hb e => k₃ b o hb (k b o e), hx₃, Nat.le_of_lt (Nat.lt_of_lt_of_le z dn), dne, hn₃⟩)
theorem low_madeK (T : LowTxt K mg C fI) {v : Value} (X : K.In s.heap) (hlim : s.heap.NoLimit) (hroom : A.depth + 1 < recursionLimit)
    (hq : ∀ h' tk e d, OwnMade s.heap h' e C d v → R (.ok (.ret (.ref e))) { s with heap := h', toks := tk }) :
    codeAny (model prog w) A (.call (.ref C) ⟨[], [("word", v)]⟩) R s := by
  obtain ⟨nm, q, N, bs, bm, sn, sub, ab, col, dd, k0, k1, k2, k3, k5, hC, hbm⟩ := T.cls
  obtain ⟨hp, g, dr, tk, os⟩ := s
  have k : ∀ b o, hp.get? b = some o → ((hp.push (kdv_tup [])).push (excO C hp.objs.size)).get? b = some o := fun b o e => Heap.get?_push_of_some _ (Heap.get?_push_of_some _ e)
  have hget : ((hp.push (kdv_tup [])).push (excO C hp.objs.size)).get? (hp.objs.size + 1) = some (excO C hp.objs.size) := by heap_get
  have hnx : K.lookup (hp.objs.size + 1) = none := by
    cases e : K.lookup (hp.objs.size + 1) with
    | none => rfl
    | some o =>
      have z : hp.get? (hp.objs.size + 1) = some o := X _ _ e
      exact absurd (Nat.lt_of_succ_lt (Heap.lt_size z)) (Nat.lt_irrefl _)
  refine call_kw F.excBase_ValueError (fun X => refsVE_contains X bm hbm) (X _ _ hC) (looks_findIn X T.iC) (fun self => bind_fn X self T.tC) ?_
  refine low_initK (s := ⟨(hp.push (kdv_tup [])).push (excO C hp.objs.size), g, dr, tk, os⟩) T (X.keeps k) (hlim.keeps k) hget hnx ?_ fun h' tk' dx ⟨k', hx, dn, dne, hns⟩ => ?_
  · show A.depth + 1 < recursionLimit
    exact hroom
  · have old : ∀ b o, hp.get? b = some o → h'.get? b = some o := fun b o e => k' b o (Nat.ne_of_lt (Nat.lt_succ_of_lt (Heap.lt_size e))) (k b o e)
    have z : hp.objs.size + 1 + 1 ≤ dx := by
      first
        | (simpa only [Heap.size_push] using dn)
        | exact dn
        | (have q := dn; rw [Heap.size_push, Heap.size_push] at q; exact q)
    exact ⟨rfl, hq h' tk' (hp.objs.size + 1) dx ⟨old, Nat.le_succ _, ⟨_, _, hx, rfl, rfl, rfl, rfl⟩, Nat.le_trans (Nat.le_trans (Nat.le_succ _) (Nat.le_succ _)) z, dne, hns⟩⟩
end
end ErrNotSo
end PySem
namespace L2
open PySem PySem.Spec PyProof.Rows
theorem relO_low_NotSo {v : V} {v' : Value} (r : RelV v v') (f : Str) : RelO (List.lookup f [(("word" : Str), v)]) (if f = "word" then some v' else none) := by
  by_cases hw : f = "word"
  · subst hw
    rw [if_pos rfl]
    have q : List.lookup ("word" : Str) [(("word" : Str), v)] = some v := by simp [List.lookup]
    rw [q]
    exact r
  · rw [if_neg hw]
    have qw : (f == ("word" : Str)) = false := by simpa using hw
    have q2 : List.lookup f [(("word" : Str), v)] = none := by simp [List.lookup, qw]
    rw [q2]
    trivial
section
variable {X : Cx} {C fI : Addr}
/-- Low(e) -/
def tMkLow_NotSo (C : Addr) (ta : TA) : St → Hp → XK → Prop := fun σ H Q => ta σ H fun vs H1 => ∃ v, vs = [v] ∧ ∀ d, H1 d = none → Q (.ref C) (some d) (upd H1 d (.xd [(("word" : Str), v)]))
theorem pmk_low_NotSo {a : Expr} {ta : TA} {p pos : Pos} {k : Nat} (T : PySem.ErrNotSo.LowTxt X.K X.mg C fI) (hr : Room k X.A) (ha : PA X [a] ta) (hg : Gl X "NotSo" := by rfl)
    (he : starEach (a :: []) X.env = (false, eval a X.env) :: starEach [] X.env := by rfl) (hpl : (backTo pos (starEach [] X.env)).any (·.1) = false := by rfl) :
    PMk X (.Call (.Name "NotSo" p) [a] [] pos) (tMkLow_NotSo C ta) := by
  intro pins s σ H Q I h
  refine wpAny_Call_Name_kw (ld_glob I hg T.gC ?_)
  refine PySem.W.callWith_K (h₀ := X.base) I.ok.mod.kin T.kC (thn (ha.run pos pins s σ H _ I h) fun us s1 hh => ?_) he hpl
  obtain ⟨vs, H1, I1, r1, v, ev, q1⟩ := hh
  subst ev
  refine ⟨I1.kIn, ?_⟩
  cases r1 with
  | cons rv rn =>
    rename_i v' us'
    cases rn
    show wpAny _ _ (call (.ref C) [v']) _ _ _
    have hlim := I1.nolimit
    obtain ⟨hp, g, dr, tk, os⟩ := s1
    refine wpAny_call (PySem.ErrNotSo.low_made T I1.kIn hlim (by have := hr.dp; omega) fun h' tk' e d M => ?_)
    show MkP X pins σ Q (.ref e) ⟨h', g, dr, tk', os⟩
    obtain ⟨oe, fv, hoe, hc, hd, hdat, h1⟩ := M.obj
    have hns := M.ns
    obtain ⟨G', g1, g2⟩ := restrict h' fun b => decide (b ≠ e)
    have gk : ∀ b, b ≠ e → G'.get? b = h'.get? b := fun b hb => g1 b (decide_eq_true hb)
    have ge : G'.get? e = none := g2 e (by simp)
    have old : ∀ b o, hp.get? b = some o → G'.get? b = some o := fun b o q => (gk b (Nat.ne_of_lt (Nat.lt_of_lt_of_le (Heap.lt_size q) M.new))).trans (M.keep b o q)
    have ob : ObjOk X.prog X.w (upd H1 d (.xd [(("word" : Str), v)])) G' d (.xd [(("word" : Str), v)]) :=
      ⟨_, hns.at (fun o q => (gk d M.dne).trans q), fun f => relO_low_NotSo rv f⟩
    have J : Inv X pins σ (upd H1 d (.xd [(("word" : Str), v)])) ⟨G', g, dr, tk', os⟩ := I1.laid (t' := tk') old M.dbig ob
    refine ⟨e, oe, fv, ⟨G', g, dr, tk', os⟩, _, .ref C, some d, rfl, J, fun b o q => ?_, ge, hoe, ⟨hc, hd⟩, hdat, h1, ?_, rfl, I1.bare, raises_own T.exC T.tyC, q1 d (I1.hok.fresh M.dbig)⟩
    · by_cases hb : b = e
      · have q' : G'.get? b = some o := q
        rw [hb, ge] at q'; cases q'
      · exact (gk b hb).symm.trans q
    · rw [upd_ne (Ne.symm M.dne)]
      exact I1.hok.fresh M.new
/-- raise Low(e) -/
def tRaiseLow_NotSo (C : Addr) (W : WX) (ta : TA) : TS := fun _ σ H => tMkLow_NotSo C ta σ H fun cls d H' => W cls d σ H'
theorem ps_raiseLow_NotSo {a : Expr} {ta : TA} {W : WX} {p pos pos2 : Pos} {k : Nat} (hc : X.calm = true) (T : PySem.ErrNotSo.LowTxt X.K X.mg C fI) (hr : Room k X.A) (tk : Takes X W) (ha : PA X [a] ta) (hg : Gl X "NotSo" := by rfl)
    (he : starEach (a :: []) X.env = (false, eval a X.env) :: starEach [] X.env := by rfl) (hpl : (backTo pos (starEach [] X.env)).any (·.1) = false := by rfl) :
    PS X (.Raise (some (.Call (.Name "NotSo" p) [a] [] pos)) none pos2) (tRaiseLow_NotSo C W ta) := ps_raise hc tk (pmk_low_NotSo T hr ha hg he hpl)
/-- C(f = e).f -/
theorem pe_namk_NotSo {e : Expr} {te : TE} {p kp pos pos2 : Pos} {k : Nat} (T : PySem.ErrNotSo.LowTxt X.K X.mg C fI) (hr : Room k X.A) (he : PE X e te) (hg : Gl X "NotSo" := by rfl)
    (hall : (backToKw pos (keywordEach [⟨some "word", e, kp⟩] X.env)).all (·.1.isSome) = true := by rfl) (hks : (backToKw pos (keywordEach [⟨some "word", e, kp⟩] X.env)).filterMap (·.1) = [("word" : Str)] := by rfl)
    (hpl : ((backTo pos (starEach [] X.env)).any (·.1) || (backToKw pos (keywordEach [⟨some "word", e, kp⟩] X.env)).any (·.1.isNone)) = false := by rfl)
    (hb : attributeBase (.Call (.Name "NotSo" p) [] [⟨some "word", e, kp⟩] pos) "word" X.env (eval (.Call (.Name "NotSo" p) [] [⟨some "word", e, kp⟩] pos) X.env) = eval (.Call (.Name "NotSo" p) [] [⟨some "word", e, kp⟩] pos) X.env := by rfl) :
    PE X (.Attribute (.Call (.Name "NotSo" p) [] [⟨some "word", e, kp⟩] pos) "word" pos2) te := by
  refine ⟨fun pins s σ H Q I h => ?_⟩
  refine attr_of hb ?_
  refine wpAny_Call_Name_kw (ld_glob I hg T.gC ?_)
  refine PySem.W.callWith_KW0 (h₀ := X.base) I.ok.mod.kin T.kC hall (thn ((pk_one he).run pos pins s σ H (fun zs H2 => match zs with | [v] => Q v H2 | _ => False) I h) fun us s1 hh => ?_) hpl
  obtain ⟨vs, H1, I1, r1, q1⟩ := hh
  refine ⟨I1.kIn, ?_⟩
  rw [hks]
  match vs, us, r1, q1 with
  | [v], [v'], .cons rv .nil, q1 =>
    have hlim := I1.nolimit
    obtain ⟨hp, g, dr, tk, os⟩ := s1
    refine wpAny_call (PySem.ErrNotSo.low_madeK T I1.kIn hlim (by have := hr.dp; omega) fun h' tk' e d M => ?_)
    show wpAny _ _ (getAttr (.ref e) "word" true) _ _ ⟨h', g, dr, tk', os⟩
    obtain ⟨oe, fv, hoe, hc, hd, hdat, h1⟩ := M.obj
    obtain ⟨od, hod, hl⟩ := lookIn_ns M.ns
    have J : PySem.W.InstAt h' e oe C (some od) := ⟨hoe, hc, by unfold PySem.W.notCls; rw [hdat] <;> rfl, by rw [hd]; exact hod⟩
    have I2 : Inv X pins σ H1 ⟨h', g, dr, tk', os⟩ := I1.kept (t' := tk') M.keep
    exact HandSPX.exc_get I2.kIn J T.ga T.gg T.exC (PySem.W.findObj_own T.hdC T.noN rfl (by rw [hl, if_pos rfl])) (handed_of rv) ⟨v, H1, I2.tok _, rv, q1⟩
end
end L2
namespace PySem
namespace ErrBadPaper
open PySem.W PySem.Calls PyProof.Rows PySem.HandSPX
def iA (p1 p2 : Pos) : Arguments := { posonlyargs := [], args := [{ arg := "self", annotation := none, pos := p1 }, { arg := "reason", annotation := none, pos := p2 }], vararg := none, kwonlyargs := [], kw_defaults := [], kwarg := none, defaults := [] }
def iB (q1 q2 q3 q4 : Pos) : List Stmt := [.Assign [.Attribute (.Name "self" q1) "reason" q2] (.Name "reason" q3) q4]
def iS : Scope := { kind := .function, names := [(PySem.Str.ofString "self", .local), (PySem.Str.ofString "reason", .local)], isGenerator := false, isCoroutine := false, more := [] }
/-- what the written part says of Low, at C, and of its __init__, at fI -/
structure LowTxt (K : Frag) (mg : Str → Option Value) (C fI : Addr) : Prop where
  gC : mg "BadPaper" = some (.ref C)
  cls : ∃ nm q N bs bm sn sub ab col dd k0 k1 k2 k3 k5, K.lookup C = some (excClassObj nm q C N bs bm true sn sub ab col dd k0 k1 k2 k3 k5 "ValueError.__new__") ∧ refsVE bm = true
  sa : findIn K (.ref C) "__setattr__" = some (some (.builtin "object.__setattr__"))
  ga : findIn K (.ref C) "__getattribute__" = some (some (.builtin "BaseException.__getattribute__"))
  gg : findIn K (.ref C) "__getattr__" = some none
  noN : findIn K (.ref C) "reason" = some none
  iC : findIn K (.ref C) "__init__" = some (some (.ref fI))
  tC : typeIn K (.ref fI) = some (.type "function")
  kC : keepIn K (.ref C) = true
  exC : subIn K (.ref C) (.type "BaseException") = some true
  tyC : typeIn K (.ref C) = some (.type "type")
  hdC : hasDictIn K C = true
  te : exmOne K (.ref C) (.ref C) = some true
  fn : ∃ (oc : Value) (od : Option Addr) (doc pm : Value) (an : Option Addr) (cdv ct : Value) (osl : Array (Option Value)) (p1 p2 q1 q2 q3 q4 : Pos),
    K.lookup fI = some ⟨oc, od, .func (fnOf "__init__" "BadPaper.__init__" (iA p1 p2) (iB q1 q2 q3 q4) iS .none .none doc pm an cdv ct), osl⟩ ∧ codeIn K cdv "BadPaper.__init__" = true
theorem one_size (v : Value) : [v].length ≤ sizeLine := by
  rw [sizeLine_eq]
  exact (by decide : 1 ≤ 16777216)
theorem ldC {M : Model} {s : Shared} {name : Str} {scope : Scope} {L a : Addr} {cd : Value} {m : Str → Option Value} {x : Str} {pos : Pos} {v : Value} {Q : Value → Shared → Prop} {A : Around} {E : Value → Shared → Prop} (hn : s.heap.Ns L m) (hv : m x = some v) (h : Q v s)
    (hk : scope.kind = .function := by rfl) (hl : (envOfC name scope L a cd).kindOf x = some .local := by rfl) (hd : (x == ("__debug__" : Str)) = false := by decide) :
    wpAny M A (eval (.Name x pos) (envOfC name scope L a cd)) Q E s := wpAny_Name (wpAny_loadName_local hk hl hn hv h) hd
/-- what __init__ leaves of a fresh exception at x -/
structure InitEnd (h h' : Heap) (x C dx t1 : Addr) (v : Value) : Prop where
  keep : ∀ b o, b ≠ x → h.get? b = some o → h'.get? b = some o
  obj : h'.get? x = some { cls := .ref C, dict := some dx, data := .fields #[.ref t1, .none, .none, .none, .bool false, .none] }
  dbig : h.objs.size ≤ dx
  dne : dx ≠ x
  ns : h'.Ns1 dx (fun y => if y = "reason" then some v else none)
/-- a made Low -/
structure OwnMade (h h' : Heap) (e C d : Addr) (v : Value) : Prop where
  keep : ∀ b o, h.get? b = some o → h'.get? b = some o
  new : h.objs.size ≤ e
  obj : ∃ oe vs, h'.get? e = some oe ∧ oe.cls = .ref C ∧ oe.dict = some d ∧ oe.data = .fields vs ∧ vs[1]? = some .none
  dbig : h.objs.size ≤ d
  dne : d ≠ e
  ns : h'.Ns1 d (fun y => if y = "reason" then some v else none)
section
variable {prog : Program} {w : World} {A : Around} {E : Value → Shared → Prop} {R : Result → Shared → Prop} {s : Shared} {K : Frag} {mg : Str → Option Value} {C fI : Addr}
theorem low_init (T : LowTxt K mg C fI) {x t0 : Addr} {v : Value} (X : K.In s.heap) (hlim : s.heap.NoLimit) (hx : s.heap.get? x = some (excO C t0)) (hnx : K.lookup x = none) (hroom : A.depth < recursionLimit)
    (hq : ∀ h' tk dx, InitEnd s.heap h' x C dx t0 v → R (.ok (.ret .none)) { s with heap := h', toks := tk }) :
    codeAny (model prog w) A (.call (.ref fI) ⟨[.ref x, v], []⟩) R s := by
  obtain ⟨oc, od, doc, pm, an, cdv, ct, osl, p1, p2, q1, q2, q3, q4, ho, hcd⟩ := T.fn
  obtain ⟨nm, q, N, bs, bm, sn, sub, ab, col, dd, k0, k1, k2, k3, k5, hC, hbm⟩ := T.cls
  have hcl : clsIn K C = some { name := nm, bases := bs, mro := .ref C :: bm, ns := N, qualname := q, hasDict := true, slotNames := sn, subclasses := sub, abstract := ab, collection := col, hasDel := false } := by unfold clsIn; rw [hC] <;> rfl
  refine Att.call_fn (binds := [("self", .ref x), ("reason", v)]) X hlim ho hcd hroom (BindsTo.of_eq (by first | rfl | with_unfolding_all rfl)) (by first | rfl | decide | with_unfolding_all rfl) (fun s₁ IC => ?_) rfl rfl rfl
  obtain ⟨h₁, tk₁, rfl⟩ := IC.toInCall.same
  have k : ∀ b o, s.heap.get? b = some o → h₁.get? b = some o := IC.toInCall.keep
  have hn := IC.toInCall.ns
  have hxL : s.heap.objs.size ≠ x := Nat.ne_of_gt (Heap.lt_size hx)
  have X₁ : K.In h₁ := X.keeps k
  have hx₁ := k _ _ hx
  -- self.by = by
  show wpAny _ _ (execs _ _) _ _ _
  refine wpAny_execs_cons (plainObj_wpAny_Assign_Attribute ?_)
  refine ldC (v := v) hn (by first | rfl | with_unfolding_all rfl | kernel_rfl) (ldC (v := .ref x) hn (by first | rfl | with_unfolding_all rfl | kernel_rfl) ?_)
  refine set_plain X₁ (ox := excO C t0) (od := none) ⟨hx₁, rfl, rfl, trivial⟩ T.sa ?_
  refine exc_osa X₁ hx₁ hcl (show refsVE (.ref C :: bm) = true from hbm) rfl T.noN (fun h₃ tk₃ dx k₃ dn dne hx₃ hn₃ => ?_)
  show wpAny _ _ (execs _ _) _ _ _
  have z : s.heap.objs.size < h₁.objs.size := hn.lt
  exact wpAny_execs_nil (hq h₃ tk₃ dx ⟨fun b o hb e => k₃ b o hb (k b o e), hx₃, Nat.le_of_lt (Nat.lt_of_lt_of_le z dn), dne, hn₃⟩)
theorem low_made (T : LowTxt K mg C fI) {v : Value} (X : K.In s.heap) (hlim : s.heap.NoLimit) (hroom : A.depth + 1 < recursionLimit)
    (hq : ∀ h' tk e d, OwnMade s.heap h' e C d v → R (.ok (.ret (.ref e))) { s with heap := h', toks := tk }) :
    codeAny (model prog w) A (.call (.ref C) ⟨[v], []⟩) R s := by
  obtain ⟨nm, q, N, bs, bm, sn, sub, ab, col, dd, k0, k1, k2, k3, k5, hC, hbm⟩ := T.cls
  obtain ⟨hp, g, dr, tk, os⟩ := s
  have k : ∀ b o, hp.get? b = some o → ((hp.push (kdv_tup [v])).push (excO C hp.objs.size)).get? b = some o := fun b o e => Heap.get?_push_of_some _ (Heap.get?_push_of_some _ e)
  have hget : ((hp.push (kdv_tup [v])).push (excO C hp.objs.size)).get? (hp.objs.size + 1) = some (excO C hp.objs.size) := by heap_get
  have hnx : K.lookup (hp.objs.size + 1) = none := by
    cases e : K.lookup (hp.objs.size + 1) with
    | none => rfl
    | some o =>
      have z : hp.get? (hp.objs.size + 1) = some o := X _ _ e
      exact absurd (Nat.lt_of_succ_lt (Heap.lt_size z)) (Nat.lt_irrefl _)
  refine call_own F.excBase_ValueError (fun X => refsVE_contains X bm hbm) (X _ _ hC) (looks_findIn X T.iC) (fun self => bind_fn X self T.tC) (one_size v) ?_
  refine low_init (s := ⟨(hp.push (kdv_tup [v])).push (excO C hp.objs.size), g, dr, tk, os⟩) T (X.keeps k) (hlim.keeps k) hget hnx ?_ fun h' tk' dx ⟨k', hx, dn, dne, hns⟩ => ?_
  · show A.depth + 1 < recursionLimit
    exact hroom
  · have old : ∀ b o, hp.get? b = some o → h'.get? b = some o := fun b o e => k' b o (Nat.ne_of_lt (Nat.lt_succ_of_lt (Heap.lt_size e))) (k b o e)
    have z : hp.objs.size + 1 + 1 ≤ dx := by
      first
        | (simpa only [Heap.size_push] using dn)
        | exact dn
        | (have q := dn; rw [Heap.size_push, Heap.size_push] at q; exact q)
    exact ⟨rfl, hq h' tk' (hp.objs.size + 1) dx ⟨old, Nat.le_succ _, ⟨_, _, hx, rfl, rfl, rfl, rfl⟩, Nat.le_trans (Nat.le_trans (Nat.le_succ _) (Nat.le_succ _)) z, dne, hns⟩⟩
theorem low_initK (T : LowTxt K mg C fI) {x t0 : Addr} {v : Value} (X : K.In s.heap) (hlim : s.heap.NoLimit) (hx : s.heap.get? x = some (excO C t0)) (hnx : K.lookup x = none) (hroom : A.depth < recursionLimit)
    (hq : ∀ h' tk dx, InitEnd s.heap h' x C dx t0 v → R (.ok (.ret .none)) { s with heap := h', toks := tk }) :
    codeAny (model prog w) A (.call (.ref fI) ⟨[.ref x], [("reason", v)]⟩) R s := by
  obtain ⟨oc, od, doc, pm, an, cdv, ct, osl, p1, p2, q1, q2, q3, q4, ho, hcd⟩ := T.fn
  obtain ⟨nm, q, N, bs, bm, sn, sub, ab, col, dd, k0, k1, k2, k3, k5, hC, hbm⟩ := T.cls
  have hcl : clsIn K C = some { name := nm, bases := bs, mro := .ref C :: bm, ns := N, qualname := q, hasDict := true, slotNames := sn, subclasses := sub, abstract := ab, collection := col, hasDel := false } := by unfold clsIn; rw [hC] <;> rfl
  refine Att.call_fn (binds := [("self", .ref x), ("reason", v)]) X hlim ho hcd hroom (BindsTo.of_eq (by first | rfl | with_unfolding_all rfl)) (by first | rfl | decide | with_unfolding_all rfl) (fun s₁ IC => ?_) rfl rfl rfl
  obtain ⟨h₁, tk₁, rfl⟩ := IC.toInCall.same
  have k : ∀ b o, s.heap.get? b = some o → h₁.get? b = some o := IC.toInCall.keep
  have hn := IC.toInCall.ns
  have hxL : s.heap.objs.size ≠ x := Nat.ne_of_gt (Heap.lt_size hx)
  have X₁ : K.In h₁ := X.keeps k
  have hx₁ := k _ _ hx
  -- self.by = by
  show wpAny _ _ (execs _ _) _ _ _
  refine wpAny_execs_cons (plainObj_wpAny_Assign_Attribute ?_)
  refine ldC (v := v) hn (by first | rfl | with_unfolding_all rfl | kernel_rfl) (ldC (v := .ref x) hn (by first | rfl | with_unfolding_all rfl | kernel_rfl) ?_)
  refine set_plain X₁ (ox := excO C t0) (od := none) ⟨hx₁, rfl, rfl, trivial⟩ T.sa ?_
  refine exc_osa X₁ hx₁ hcl (show refsVE (.ref C :: bm) = true from hbm) rfl T.noN (fun h₃ tk₃ dx k₃ dn dne hx₃ hn₃ => ?_)
  show wpAny _ _ (execs _ _) _ _ _
  have z : s.heap.objs.size < h₁.objs.size := hn.lt
  exact wpAny_execs_nil (hq h₃ tk₃ dx ⟨fun b o hb e => k₃ b o hb (k b o e), hx₃, Nat.le_of_lt (Nat.lt_of_lt_of_le z dn), dne, hn₃⟩)
theorem low_madeK (T : LowTxt K mg C fI) {v : Value} (X : K.In s.heap) (hlim : s.heap.NoLimit) (hroom : A.depth + 1 < recursionLimit)
    (hq : ∀ h' tk e d, OwnMade s.heap h' e C d v → R (.ok (.ret (.ref e))) { s with heap := h', toks := tk }) :
    codeAny (model prog w) A (.call (.ref C) ⟨[], [("reason", v)]⟩) R s := by
  obtain ⟨nm, q, N, bs, bm, sn, sub, ab, col, dd, k0, k1, k2, k3, k5, hC, hbm⟩ := T.cls
  obtain ⟨hp, g, dr, tk, os⟩ := s
  have k : ∀ b o, hp.get? b = some o → ((hp.push (kdv_tup [])).push (excO C hp.objs.size)).get? b = some o := fun b o e => Heap.get?_push_of_some _ (Heap.get?_push_of_some _ e)
  have hget : ((hp.push (kdv_tup [])).push (excO C hp.objs.size)).get? (hp.objs.size + 1) = some (excO C hp.objs.size) := by heap_get
  have hnx : K.lookup (hp.objs.size + 1) = none := by
    cases e : K.lookup (hp.objs.size + 1) with
    | none => rfl
    | some o =>
      have z : hp.get? (hp.objs.size + 1) = some o := X _ _ e
      exact absurd (Nat.lt_of_succ_lt (Heap.lt_size z)) (Nat.lt_irrefl _)
  refine call_kw F.excBase_ValueError (fun X => refsVE_contains X bm hbm) (X _ _ hC) (looks_findIn X T.iC) (fun self => bind_fn X self T.tC) ?_
  refine low_initK (s := ⟨(hp.push (kdv_tup [])).push (excO C hp.objs.size), g, dr, tk, os⟩) T (X.keeps k) (hlim.keeps k) hget hnx ?_ fun h' tk' dx ⟨k', hx, dn, dne, hns⟩ => ?_
  · show A.depth + 1 < recursionLimit
    exact hroom
  · have old : ∀ b o, hp.get? b = some o → h'.get? b = some o := fun b o e => k' b o (Nat.ne_of_lt (Nat.lt_succ_of_lt (Heap.lt_size e))) (k b o e)
    have z : hp.objs.size + 1 + 1 ≤ dx := by
      first
        | (simpa only [Heap.size_push] using dn)
        | exact dn
        | (have q := dn; rw [Heap.size_push, Heap.size_push] at q; exact q)
    exact ⟨rfl, hq h' tk' (hp.objs.size + 1) dx ⟨old, Nat.le_succ _, ⟨_, _, hx, rfl, rfl, rfl, rfl⟩, Nat.le_trans (Nat.le_trans (Nat.le_succ _) (Nat.le_succ _)) z, dne, hns⟩⟩
end
end ErrBadPaper
end PySem
namespace L2
open PySem PySem.Spec PyProof.Rows
theorem relO_low_BadPaper {v : V} {v' : Value} (r : RelV v v') (f : Str) : RelO (List.lookup f [(("reason" : Str), v)]) (if f = "reason" then some v' else none) := by
  by_cases hw : f = "reason"
  · subst hw
    rw [if_pos rfl]
    have q : List.lookup ("reason" : Str) [(("reason" : Str), v)] = some v := by simp [List.lookup]
    rw [q]
    exact r
  · rw [if_neg hw]
    have qw : (f == ("reason" : Str)) = false := by simpa using hw
    have q2 : List.lookup f [(("reason" : Str), v)] = none := by simp [List.lookup, qw]
    rw [q2]
    trivial
section
variable {X : Cx} {C fI : Addr}
/-- Low(e) -/
def tMkLow_BadPaper (C : Addr) (ta : TA) : St → Hp → XK → Prop := fun σ H Q => ta σ H fun vs H1 => ∃ v, vs = [v] ∧ ∀ d, H1 d = none → Q (.ref C) (some d) (upd H1 d (.xd [(("reason" : Str), v)]))
theorem pmk_low_BadPaper {a : Expr} {ta : TA} {p pos : Pos} {k : Nat} (T : PySem.ErrBadPaper.LowTxt X.K X.mg C fI) (hr : Room k X.A) (ha : PA X [a] ta) (hg : Gl X "BadPaper" := by rfl)
    (he : starEach (a :: []) X.env = (false, eval a X.env) :: starEach [] X.env := by rfl) (hpl : (backTo pos (starEach [] X.env)).any (·.1) = false := by rfl) :
    PMk X (.Call (.Name "BadPaper" p) [a] [] pos) (tMkLow_BadPaper C ta) := by
  intro pins s σ H Q I h
  refine wpAny_Call_Name_kw (ld_glob I hg T.gC ?_)
  refine PySem.W.callWith_K (h₀ := X.base) I.ok.mod.kin T.kC (thn (ha.run pos pins s σ H _ I h) fun us s1 hh => ?_) he hpl
  obtain ⟨vs, H1, I1, r1, v, ev, q1⟩ := hh
  subst ev
  refine ⟨I1.kIn, ?_⟩
  cases r1 with
  | cons rv rn =>
    rename_i v' us'
    cases rn
    show wpAny _ _ (call (.ref C) [v']) _ _ _
    have hlim := I1.nolimit
    obtain ⟨hp, g, dr, tk, os⟩ := s1
    refine wpAny_call (PySem.ErrBadPaper.low_made T I1.kIn hlim (by have := hr.dp; omega) fun h' tk' e d M => ?_)
    show MkP X pins σ Q (.ref e) ⟨h', g, dr, tk', os⟩
    obtain ⟨oe, fv, hoe, hc, hd, hdat, h1⟩ := M.obj
    have hns := M.ns
    obtain ⟨G', g1, g2⟩ := restrict h' fun b => decide (b ≠ e)
    have gk : ∀ b, b ≠ e → G'.get? b = h'.get? b := fun b hb => g1 b (decide_eq_true hb)
    have ge : G'.get? e = none := g2 e (by simp)
    have old : ∀ b o, hp.get? b = some o → G'.get? b = some o := fun b o q => (gk b (Nat.ne_of_lt (Nat.lt_of_lt_of_le (Heap.lt_size q) M.new))).trans (M.keep b o q)
    have ob : ObjOk X.prog X.w (upd H1 d (.xd [(("reason" : Str), v)])) G' d (.xd [(("reason" : Str), v)]) :=
      ⟨_, hns.at (fun o q => (gk d M.dne).trans q), fun f => relO_low_BadPaper rv f⟩
    have J : Inv X pins σ (upd H1 d (.xd [(("reason" : Str), v)])) ⟨G', g, dr, tk', os⟩ := I1.laid (t' := tk') old M.dbig ob
    refine ⟨e, oe, fv, ⟨G', g, dr, tk', os⟩, _, .ref C, some d, rfl, J, fun b o q => ?_, ge, hoe, ⟨hc, hd⟩, hdat, h1, ?_, rfl, I1.bare, raises_own T.exC T.tyC, q1 d (I1.hok.fresh M.dbig)⟩
    · by_cases hb : b = e
      · have q' : G'.get? b = some o := q
        rw [hb, ge] at q'; cases q'
      · exact (gk b hb).symm.trans q
    · rw [upd_ne (Ne.symm M.dne)]
      exact I1.hok.fresh M.new
/-- raise Low(e) -/
def tRaiseLow_BadPaper (C : Addr) (W : WX) (ta : TA) : TS := fun _ σ H => tMkLow_BadPaper C ta σ H fun cls d H' => W cls d σ H'
theorem ps_raiseLow_BadPaper {a : Expr} {ta : TA} {W : WX} {p pos pos2 : Pos} {k : Nat} (hc : X.calm = true) (T : PySem.ErrBadPaper.LowTxt X.K X.mg C fI) (hr : Room k X.A) (tk : Takes X W) (ha : PA X [a] ta) (hg : Gl X "BadPaper" := by rfl)
    (he : starEach (a :: []) X.env = (false, eval a X.env) :: starEach [] X.env := by rfl) (hpl : (backTo pos (starEach [] X.env)).any (·.1) = false := by rfl) :
    PS X (.Raise (some (.Call (.Name "BadPaper" p) [a] [] pos)) none pos2) (tRaiseLow_BadPaper C W ta) := ps_raise hc tk (pmk_low_BadPaper T hr ha hg he hpl)
/-- C(f = e).f -/
theorem pe_namk_BadPaper {e : Expr} {te : TE} {p kp pos pos2 : Pos} {k : Nat} (T : PySem.ErrBadPaper.LowTxt X.K X.mg C fI) (hr : Room k X.A) (he : PE X e te) (hg : Gl X "BadPaper" := by rfl)
    (hall : (backToKw pos (keywordEach [⟨some "reason", e, kp⟩] X.env)).all (·.1.isSome) = true := by rfl) (hks : (backToKw pos (keywordEach [⟨some "reason", e, kp⟩] X.env)).filterMap (·.1) = [("reason" : Str)] := by rfl)
    (hpl : ((backTo pos (starEach [] X.env)).any (·.1) || (backToKw pos (keywordEach [⟨some "reason", e, kp⟩] X.env)).any (·.1.isNone)) = false := by rfl)
    (hb : attributeBase (.Call (.Name "BadPaper" p) [] [⟨some "reason", e, kp⟩] pos) "reason" X.env (eval (.Call (.Name "BadPaper" p) [] [⟨some "reason", e, kp⟩] pos) X.env) = eval (.Call (.Name "BadPaper" p) [] [⟨some "reason", e, kp⟩] pos) X.env := by rfl) :
    PE X (.Attribute (.Call (.Name "BadPaper" p) [] [⟨some "reason", e, kp⟩] pos) "reason" pos2) te := by
  refine ⟨fun pins s σ H Q I h => ?_⟩
  refine attr_of hb ?_
  refine wpAny_Call_Name_kw (ld_glob I hg T.gC ?_)
  refine PySem.W.callWith_KW0 (h₀ := X.base) I.ok.mod.kin T.kC hall (thn ((pk_one he).run pos pins s σ H (fun zs H2 => match zs with | [v] => Q v H2 | _ => False) I h) fun us s1 hh => ?_) hpl
  obtain ⟨vs, H1, I1, r1, q1⟩ := hh
  refine ⟨I1.kIn, ?_⟩
  rw [hks]
  match vs, us, r1, q1 with
  | [v], [v'], .cons rv .nil, q1 =>
    have hlim := I1.nolimit
    obtain ⟨hp, g, dr, tk, os⟩ := s1
    refine wpAny_call (PySem.ErrBadPaper.low_madeK T I1.kIn hlim (by have := hr.dp; omega) fun h' tk' e d M => ?_)
    show wpAny _ _ (getAttr (.ref e) "reason" true) _ _ ⟨h', g, dr, tk', os⟩
    obtain ⟨oe, fv, hoe, hc, hd, hdat, h1⟩ := M.obj
    obtain ⟨od, hod, hl⟩ := lookIn_ns M.ns
    have J : PySem.W.InstAt h' e oe C (some od) := ⟨hoe, hc, by unfold PySem.W.notCls; rw [hdat] <;> rfl, by rw [hd]; exact hod⟩
    have I2 : Inv X pins σ H1 ⟨h', g, dr, tk', os⟩ := I1.kept (t' := tk') M.keep
    exact HandSPX.exc_get I2.kIn J T.ga T.gg T.exC (PySem.W.findObj_own T.hdC T.noN rfl (by rw [hl, if_pos rfl])) (handed_of rv) ⟨v, H1, I2.tok _, rv, q1⟩
end
end L2
namespace PySem
namespace ErrBadTiding
open PySem.W PySem.Calls PyProof.Rows PySem.HandSPX
def iA (p1 p2 : Pos) : Arguments := { posonlyargs := [], args := [{ arg := "self", annotation := none, pos := p1 }, { arg := "index", annotation := none, pos := p2 }], vararg := none, kwonlyargs := [], kw_defaults := [], kwarg := none, defaults := [] }
def iB (q1 q2 q3 q4 : Pos) : List Stmt := [.Assign [.Attribute (.Name "self" q1) "index" q2] (.Name "index" q3) q4]
def iS : Scope := { kind := .function, names := [(PySem.Str.ofString "self", .local), (PySem.Str.ofString "index", .local)], isGenerator := false, isCoroutine := false, more := [] }
/-- what the written part says of Low, at C, and of its __init__, at fI -/
structure LowTxt (K : Frag) (mg : Str → Option Value) (C fI : Addr) : Prop where
  gC : mg "BadTiding" = some (.ref C)
  cls : ∃ nm q N bs bm sn sub ab col dd k0 k1 k2 k3 k5, K.lookup C = some (excClassObj nm q C N bs bm true sn sub ab col dd k0 k1 k2 k3 k5 "ValueError.__new__") ∧ refsVE bm = true
  sa : findIn K (.ref C) "__setattr__" = some (some (.builtin "object.__setattr__"))
  ga : findIn K (.ref C) "__getattribute__" = some (some (.builtin "BaseException.__getattribute__"))
  gg : findIn K (.ref C) "__getattr__" = some none
  noN : findIn K (.ref C) "index" = some none
  iC : findIn K (.ref C) "__init__" = some (some (.ref fI))
  tC : typeIn K (.ref fI) = some (.type "function")
  kC : keepIn K (.ref C) = true
  exC : subIn K (.ref C) (.type "BaseException") = some true
  tyC : typeIn K (.ref C) = some (.type "type")
  hdC : hasDictIn K C = true
  te : exmOne K (.ref C) (.ref C) = some true
  fn : ∃ (oc : Value) (od : Option Addr) (doc pm : Value) (an : Option Addr) (cdv ct : Value) (osl : Array (Option Value)) (p1 p2 q1 q2 q3 q4 : Pos),
    K.lookup fI = some ⟨oc, od, .func (fnOf "__init__" "BadTiding.__init__" (iA p1 p2) (iB q1 q2 q3 q4) iS .none .none doc pm an cdv ct), osl⟩ ∧ codeIn K cdv "BadTiding.__init__" = true
theorem one_size (v : Value) : [v].length ≤ sizeLine := by
  rw [sizeLine_eq]
  exact (by decide : 1 ≤ 16777216)
theorem ldC {M : Model} {s : Shared} {name : Str} {scope : Scope} {L a : Addr} {cd : Value} {m : Str → Option Value} {x : Str} {pos : Pos} {v : Value} {Q : Value → Shared → Prop} {A : Around} {E : Value → Shared → Prop} (hn : s.heap.Ns L m) (hv : m x = some v) (h : Q v s)
    (hk : scope.kind = .function := by rfl) (hl : (envOfC name scope L a cd).kindOf x = some .local := by rfl) (hd : (x == ("__debug__" : Str)) = false := by decide) :
    wpAny M A (eval (.Name x pos) (envOfC name scope L a cd)) Q E s := wpAny_Name (wpAny_loadName_local hk hl hn hv h) hd
/-- what __init__ leaves of a fresh exception at x -/
structure InitEnd (h h' : Heap) (x C dx t1 : Addr) (v : Value) : Prop where
  keep : ∀ b o, b ≠ x → h.get? b = some o → h'.get? b = some o
  obj : h'.get? x = some { cls := .ref C, dict := some dx, data := .fields #[.ref t1, .none, .none, .none, .bool false, .none] }
  dbig : h.objs.size ≤ dx
  dne : dx ≠ x
  ns : h'.Ns1 dx (fun y => if y = "index" then some v else none)
/-- a made Low -/
structure OwnMade (h h' : Heap) (e C d : Addr) (v : Value) : Prop where
  keep : ∀ b o, h.get? b = some o → h'.get? b = some o
  new : h.objs.size ≤ e
  obj : ∃ oe vs, h'.get? e = some oe ∧ oe.cls = .ref C ∧ oe.dict = some d ∧ oe.data = .fields vs ∧ vs[1]? = some .none
  dbig : h.objs.size ≤ d
  dne : d ≠ e
  ns : h'.Ns1 d (fun y => if y = "index" then some v else none)
section
variable {prog : Program} {w : World} {A : Around} {E : Value → Shared → Prop} {R : Result → Shared → Prop} {s : Shared} {K : Frag} {mg : Str → Option Value} {C fI : Addr}
theorem low_init (T : LowTxt K mg C fI) {x t0 : Addr} {v : Value} (X : K.In s.heap) (hlim : s.heap.NoLimit) (hx : s.heap.get? x = some (excO C t0)) (hnx : K.lookup x = none) (hroom : A.depth < recursionLimit)
    (hq : ∀ h' tk dx, InitEnd s.heap h' x C dx t0 v → R (.ok (.ret .none)) { s with heap := h', toks := tk }) :
    codeAny (model prog w) A (.call (.ref fI) ⟨[.ref x, v], []⟩) R s := by
  obtain ⟨oc, od, doc, pm, an, cdv, ct, osl, p1, p2, q1, q2, q3, q4, ho, hcd⟩ := T.fn
  obtain ⟨nm, q, N, bs, bm, sn, sub, ab, col, dd, k0, k1, k2, k3, k5, hC, hbm⟩ := T.cls
  have hcl : clsIn K C = some { name := nm, bases := bs, mro := .ref C :: bm, ns := N, qualname := q, hasDict := true, slotNames := sn, subclasses := sub, abstract := ab, collection := col, hasDel := false } := by unfold clsIn; rw [hC] <;> rfl
  refine Att.call_fn (binds := [("self", .ref x), ("index", v)]) X hlim ho hcd hroom (BindsTo.of_eq (by first | rfl | with_unfolding_all rfl)) (by first | rfl | decide | with_unfolding_all rfl) (fun s₁ IC => ?_) rfl rfl rfl
  obtain ⟨h₁, tk₁, rfl⟩ := IC.toInCall.same
  have k : ∀ b o, s.heap.get? b = some o → h₁.get? b = some o := IC.toInCall.keep
  have hn := IC.toInCall.ns
  have hxL : s.heap.objs.size ≠ x := Nat.ne_of_gt (Heap.lt_size hx)
  have X₁ : K.In h₁ := X.keeps k
  have hx₁ := k _ _ hx
  -- self.by = by
  show wpAny _ _ (execs _ _) _ _ _
  refine wpAny_execs_cons (plainObj_wpAny_Assign_Attribute ?_)
  refine ldC (v := v) hn (by first | rfl | with_unfolding_all rfl | kernel_rfl) (ldC (v := .ref x) hn (by first | rfl | with_unfolding_all rfl | kernel_rfl) ?_)
  refine set_plain X₁ (ox := excO C t0) (od := none) ⟨hx₁, rfl, rfl, trivial⟩ T.sa ?_
  refine exc_osa X₁ hx₁ hcl (show refsVE (.ref C :: bm) = true from hbm) rfl T.noN (fun h₃ tk₃ dx k₃ dn dne hx₃ hn₃ => ?_)
  show wpAny _ _ (execs _ _) _ _ _
  have z : s.heap.objs.size < h₁.objs.size := hn.lt
  exact wpAny_execs_nil (hq h₃ tk₃ dx ⟨fun b o hb e => k₃ b o hb (k b o e), hx₃, Nat.le_of_lt (Nat.lt_of_lt_of_le z dn), dne, hn₃⟩)
theorem low_made (T : LowTxt K mg C fI) {v : Value} (X : K.In s.heap) (hlim : s.heap.NoLimit) (hroom : A.depth + 1 < recursionLimit)
    (hq : ∀ h' tk e d, OwnMade s.heap h' e C d v → R (.ok (.ret (.ref e))) { s with heap := h', toks := tk }) :
    codeAny (model prog w) A (.call (.ref C) ⟨[v], []⟩) R s := by
  obtain ⟨nm, q, N, bs, bm, sn, sub, ab, col, dd, k0, k1, k2, k3, k5, hC, hbm⟩ := T.cls
  obtain ⟨hp, g, dr, tk, os⟩ := s
  have k : ∀ b o, hp.get? b = some o → ((hp.push (kdv_tup [v])).push (excO C hp.objs.size)).get? b = some o := fun b o e => Heap.get?_push_of_some _ (Heap.get?_push_of_some _ e)
  have hget : ((hp.push (kdv_tup [v])).push (excO C hp.objs.size)).get? (hp.objs.size + 1) = some (excO C hp.objs.size) := by heap_get
  have hnx : K.lookup (hp.objs.size + 1) = none := by
    cases e : K.lookup (hp.objs.size + 1) with
    | none => rfl
    | some o =>
      have z : hp.get? (hp.objs.size + 1) = some o := X _ _ e
      exact absurd (Nat.lt_of_succ_lt (Heap.lt_size z)) (Nat.lt_irrefl _)
  refine call_own F.excBase_ValueError (fun X => refsVE_contains X bm hbm) (X _ _ hC) (looks_findIn X T.iC) (fun self => bind_fn X self T.tC) (one_size v) ?_
  refine low_init (s := ⟨(hp.push (kdv_tup [v])).push (excO C hp.objs.size), g, dr, tk, os⟩) T (X.keeps k) (hlim.keeps k) hget hnx ?_ fun h' tk' dx ⟨k', hx, dn, dne, hns⟩ => ?_
  · show A.depth + 1 < recursionLimit
    exact hroom
  · have old : ∀ b o, hp.get? b = some o → h'.get? b = some o := fun b o e => k' b o (Nat.ne_of_lt (Nat.lt_succ_of_lt (Heap.lt_size e))) (k b o e)
    have z : hp.objs.size + 1 + 1 ≤ dx := by
      first
        | (simpa only [Heap.size_push] using dn)
        | exact dn
        | (have q := dn; rw [Heap.size_push, Heap.size_push] at q; exact q)
    exact ⟨rfl, hq h' tk' (hp.objs.size + 1) dx ⟨old, Nat.le_succ _, ⟨_, _, hx, rfl, rfl, rfl, rfl⟩, Nat.le_trans (Nat.le_trans (Nat.le_succ _) (Nat.le_succ _)) z, dne, hns⟩⟩
theorem low_initK (T : LowTxt K mg C fI) {x t0 : Addr} {v : Value} (X : K.In s.heap) (hlim : s.heap.NoLimit) (hx : s.heap.get? x = some (excO C t0)) (hnx : K.lookup x = none) (hroom : A.depth < recursionLimit)
    (hq : ∀ h' tk dx, InitEnd s.heap h' x C dx t0 v → R (.ok (.ret .none)) { s with heap := h', toks := tk }) :
    codeAny (model prog w) A (.call (.ref fI) ⟨[.ref x], [("index", v)]⟩) R s := by
  obtain ⟨oc, od, doc, pm, an, cdv, ct, osl, p1, p2, q1, q2, q3, q4, ho, hcd⟩ := T.fn
  obtain ⟨nm, q, N, bs, bm, sn, sub, ab, col, dd, k0, k1, k2, k3, k5, hC, hbm⟩ := T.cls
  have hcl : clsIn K C = some { name := nm, bases := bs, mro := .ref C :: bm, ns := N, qualname := q, hasDict := true, slotNames := sn, subclasses := sub, abstract := ab, collection := col, hasDel := false } := by unfold clsIn; rw [hC] <;> rfl
  refine Att.call_fn (binds := [("self", .ref x), ("index", v)]) X hlim ho hcd hroom (BindsTo.of_eq (by first | rfl | with_unfolding_all rfl)) (by first | rfl | decide | with_unfolding_all rfl) (fun s₁ IC => ?_) rfl rfl rfl
  obtain ⟨h₁, tk₁, rfl⟩ := IC.toInCall.same
  have k : ∀ b o, s.heap.get? b = some o → h₁.get? b = some o := IC.toInCall.keep
  have hn := IC.toInCall.ns
  have hxL : s.heap.objs.size ≠ x := Nat.ne_of_gt (Heap.lt_size hx)
  have X₁ : K.In h₁ := X.keeps k
  have hx₁ := k _ _ hx
  -- self.by = by
  show wpAny _ _ (execs _ _) _ _ _
  refine wpAny_execs_cons (plainObj_wpAny_Assign_Attribute ?_)
  refine ldC (v := v) hn (by first | rfl | with_unfolding_all rfl | kernel_rfl) (ldC (v := .ref x) hn (by first | rfl | with_unfolding_all rfl | kernel_rfl) ?_)
  refine set_plain X₁ (ox := excO C t0) (od := none) ⟨hx₁, rfl, rfl, trivial⟩ T.sa ?_
  refine exc_osa X₁ hx₁ hcl (show refsVE (.ref C :: bm) = true from hbm) rfl T.noN (fun h₃ tk₃ dx k₃ dn dne hx₃ hn₃ => ?_)
  show wpAny _ _ (execs _ _) _ _ _
  have z : s.heap.objs.size < h₁.objs.size := hn.lt
  exact wpAny_execs_nil (hq h₃ tk₃ dx ⟨fun b o hb e => k₃ b o hb (k b o e), hx₃, Nat.le_of_lt (Nat.lt_of_lt_of_le z dn), dne, hn₃⟩)
theorem low_madeK (T : LowTxt K mg C fI) {v : Value} (X : K.In s.heap) (hlim : s.heap.NoLimit) (hroom : A.depth + 1 < recursionLimit)
    (hq : ∀ h' tk e d, OwnMade s.heap h' e C d v → R (.ok (.ret (.ref e))) { s with heap := h', toks := tk }) :
    codeAny (model prog w) A (.call (.ref C) ⟨[], [("index", v)]⟩) R s := by
  obtain ⟨nm, q, N, bs, bm, sn, sub, ab, col, dd, k0, k1, k2, k3, k5, hC, hbm⟩ := T.cls
  obtain ⟨hp, g, dr, tk, os⟩ := s
  have k : ∀ b o, hp.get? b = some o → ((hp.push (kdv_tup [])).push (excO C hp.objs.size)).get? b = some o := fun b o e => Heap.get?_push_of_some _ (Heap.get?_push_of_some _ e)
  have hget : ((hp.push (kdv_tup [])).push (excO C hp.objs.size)).get? (hp.objs.size + 1) = some (excO C hp.objs.size) := by heap_get
  have hnx : K.lookup (hp.objs.size + 1) = none := by
    cases e : K.lookup (hp.objs.size + 1) with
    | none => rfl
    | some o =>
      have z : hp.get? (hp.objs.size + 1) = some o := X _ _ e
      exact absurd (Nat.lt_of_succ_lt (Heap.lt_size z)) (Nat.lt_irrefl _)
  refine call_kw F.excBase_ValueError (fun X => refsVE_contains X bm hbm) (X _ _ hC) (looks_findIn X T.iC) (fun self => bind_fn X self T.tC) ?_
  refine low_initK (s := ⟨(hp.push (kdv_tup [])).push (excO C hp.objs.size), g, dr, tk, os⟩) T (X.keeps k) (hlim.keeps k) hget hnx ?_ fun h' tk' dx ⟨k', hx, dn, dne, hns⟩ => ?_
  · show A.depth + 1 < recursionLimit
    exact hroom
  · have old : ∀ b o, hp.get? b = some o → h'.get? b = some o := fun b o e => k' b o (Nat.ne_of_lt (Nat.lt_succ_of_lt (Heap.lt_size e))) (k b o e)
    have z : hp.objs.size + 1 + 1 ≤ dx := by
      first
        | (simpa only [Heap.size_push] using dn)
        | exact dn
        | (have q := dn; rw [Heap.size_push, Heap.size_push] at q; exact q)
    exact ⟨rfl, hq h' tk' (hp.objs.size + 1) dx ⟨old, Nat.le_succ _, ⟨_, _, hx, rfl, rfl, rfl, rfl⟩, Nat.le_trans (Nat.le_trans (Nat.le_succ _) (Nat.le_succ _)) z, dne, hns⟩⟩
end
end ErrBadTiding
end PySem
namespace L2
open PySem PySem.Spec PyProof.Rows
theorem relO_low_BadTiding {v : V} {v' : Value} (r : RelV v v') (f : Str) : RelO (List.lookup f [(("index" : Str), v)]) (if f = "index" then some v' else none) := by
  by_cases hw : f = "index"
  · subst hw
    rw [if_pos rfl]
    have q : List.lookup ("index" : Str) [(("index" : Str), v)] = some v := by simp [List.lookup]
    rw [q]
    exact r
  · rw [if_neg hw]
    have qw : (f == ("index" : Str)) = false := by simpa using hw
    have q2 : List.lookup f [(("index" : Str), v)] = none := by simp [List.lookup, qw]
    rw [q2]
    trivial
section
variable {X : Cx} {C fI : Addr}
/-- Low(e) -/
def tMkLow_BadTiding (C : Addr) (ta : TA) : St → Hp → XK → Prop := fun σ H Q => ta σ H fun vs H1 => ∃ v, vs = [v] ∧ ∀ d, H1 d = none → Q (.ref C) (some d) (upd H1 d (.xd [(("index" : Str), v)]))
theorem pmk_low_BadTiding {a : Expr} {ta : TA} {p pos : Pos} {k : Nat} (T : PySem.ErrBadTiding.LowTxt X.K X.mg C fI) (hr : Room k X.A) (ha : PA X [a] ta) (hg : Gl X "BadTiding" := by rfl)
    (he : starEach (a :: []) X.env = (false, eval a X.env) :: starEach [] X.env := by rfl) (hpl : (backTo pos (starEach [] X.env)).any (·.1) = false := by rfl) :
    PMk X (.Call (.Name "BadTiding" p) [a] [] pos) (tMkLow_BadTiding C ta) := by
  intro pins s σ H Q I h
  refine wpAny_Call_Name_kw (ld_glob I hg T.gC ?_)
  refine PySem.W.callWith_K (h₀ := X.base) I.ok.mod.kin T.kC (thn (ha.run pos pins s σ H _ I h) fun us s1 hh => ?_) he hpl
  obtain ⟨vs, H1, I1, r1, v, ev, q1⟩ := hh
  subst ev
  refine ⟨I1.kIn, ?_⟩
  cases r1 with
  | cons rv rn =>
    rename_i v' us'
    cases rn
    show wpAny _ _ (call (.ref C) [v']) _ _ _
    have hlim := I1.nolimit
    obtain ⟨hp, g, dr, tk, os⟩ := s1
    refine wpAny_call (PySem.ErrBadTiding.low_made T I1.kIn hlim (by have := hr.dp; omega) fun h' tk' e d M => ?_)
    show MkP X pins σ Q (.ref e) ⟨h', g, dr, tk', os⟩
    obtain ⟨oe, fv, hoe, hc, hd, hdat, h1⟩ := M.obj
    have hns := M.ns
    obtain ⟨G', g1, g2⟩ := restrict h' fun b => decide (b ≠ e)
    have gk : ∀ b, b ≠ e → G'.get? b = h'.get? b := fun b hb => g1 b (decide_eq_true hb)
    have ge : G'.get? e = none := g2 e (by simp)
    have old : ∀ b o, hp.get? b = some o → G'.get? b = some o := fun b o q => (gk b (Nat.ne_of_lt (Nat.lt_of_lt_of_le (Heap.lt_size q) M.new))).trans (M.keep b o q)
    have ob : ObjOk X.prog X.w (upd H1 d (.xd [(("index" : Str), v)])) G' d (.xd [(("index" : Str), v)]) :=
      ⟨_, hns.at (fun o q => (gk d M.dne).trans q), fun f => relO_low_BadTiding rv f⟩
    have J : Inv X pins σ (upd H1 d (.xd [(("index" : Str), v)])) ⟨G', g, dr, tk', os⟩ := I1.laid (t' := tk') old M.dbig ob
    refine ⟨e, oe, fv, ⟨G', g, dr, tk', os⟩, _, .ref C, some d, rfl, J, fun b o q => ?_, ge, hoe, ⟨hc, hd⟩, hdat, h1, ?_, rfl, I1.bare, raises_own T.exC T.tyC, q1 d (I1.hok.fresh M.dbig)⟩
    · by_cases hb : b = e
      · have q' : G'.get? b = some o := q
        rw [hb, ge] at q'; cases q'
      · exact (gk b hb).symm.trans q
    · rw [upd_ne (Ne.symm M.dne)]
      exact I1.hok.fresh M.new
/-- raise Low(e) -/
def tRaiseLow_BadTiding (C : Addr) (W : WX) (ta : TA) : TS := fun _ σ H => tMkLow_BadTiding C ta σ H fun cls d H' => W cls d σ H'
theorem ps_raiseLow_BadTiding {a : Expr} {ta : TA} {W : WX} {p pos pos2 : Pos} {k : Nat} (hc : X.calm = true) (T : PySem.ErrBadTiding.LowTxt X.K X.mg C fI) (hr : Room k X.A) (tk : Takes X W) (ha : PA X [a] ta) (hg : Gl X "BadTiding" := by rfl)
    (he : starEach (a :: []) X.env = (false, eval a X.env) :: starEach [] X.env := by rfl) (hpl : (backTo pos (starEach [] X.env)).any (·.1) = false := by rfl) :
    PS X (.Raise (some (.Call (.Name "BadTiding" p) [a] [] pos)) none pos2) (tRaiseLow_BadTiding C W ta) := ps_raise hc tk (pmk_low_BadTiding T hr ha hg he hpl)
/-- C(f = e).f -/
theorem pe_namk_BadTiding {e : Expr} {te : TE} {p kp pos pos2 : Pos} {k : Nat} (T : PySem.ErrBadTiding.LowTxt X.K X.mg C fI) (hr : Room k X.A) (he : PE X e te) (hg : Gl X "BadTiding" := by rfl)
    (hall : (backToKw pos (keywordEach [⟨some "index", e, kp⟩] X.env)).all (·.1.isSome) = true := by rfl) (hks : (backToKw pos (keywordEach [⟨some "index", e, kp⟩] X.env)).filterMap (·.1) = [("index" : Str)] := by rfl)
    (hpl : ((backTo pos (starEach [] X.env)).any (·.1) || (backToKw pos (keywordEach [⟨some "index", e, kp⟩] X.env)).any (·.1.isNone)) = false := by rfl)
    (hb : attributeBase (.Call (.Name "BadTiding" p) [] [⟨some "index", e, kp⟩] pos) "index" X.env (eval (.Call (.Name "BadTiding" p) [] [⟨some "index", e, kp⟩] pos) X.env) = eval (.Call (.Name "BadTiding" p) [] [⟨some "index", e, kp⟩] pos) X.env := by rfl) :
    PE X (.Attribute (.Call (.Name "BadTiding" p) [] [⟨some "index", e, kp⟩] pos) "index" pos2) te := by
  refine ⟨fun pins s σ H Q I h => ?_⟩
  refine attr_of hb ?_
  refine wpAny_Call_Name_kw (ld_glob I hg T.gC ?_)
  refine PySem.W.callWith_KW0 (h₀ := X.base) I.ok.mod.kin T.kC hall (thn ((pk_one he).run pos pins s σ H (fun zs H2 => match zs with | [v] => Q v H2 | _ => False) I h) fun us s1 hh => ?_) hpl
  obtain ⟨vs, H1, I1, r1, q1⟩ := hh
  refine ⟨I1.kIn, ?_⟩
  rw [hks]
  match vs, us, r1, q1 with
  | [v], [v'], .cons rv .nil, q1 =>
    have hlim := I1.nolimit
    obtain ⟨hp, g, dr, tk, os⟩ := s1
    refine wpAny_call (PySem.ErrBadTiding.low_madeK T I1.kIn hlim (by have := hr.dp; omega) fun h' tk' e d M => ?_)
    show wpAny _ _ (getAttr (.ref e) "index" true) _ _ ⟨h', g, dr, tk', os⟩
    obtain ⟨oe, fv, hoe, hc, hd, hdat, h1⟩ := M.obj
    obtain ⟨od, hod, hl⟩ := lookIn_ns M.ns
    have J : PySem.W.InstAt h' e oe C (some od) := ⟨hoe, hc, by unfold PySem.W.notCls; rw [hdat] <;> rfl, by rw [hd]; exact hod⟩
    have I2 : Inv X pins σ H1 ⟨h', g, dr, tk', os⟩ := I1.kept (t' := tk') M.keep
    exact HandSPX.exc_get I2.kIn J T.ga T.gg T.exC (PySem.W.findObj_own T.hdC T.noN rfl (by rw [hl, if_pos rfl])) (handed_of rv) ⟨v, H1, I2.tok _, rv, q1⟩
end
end L2
namespace PySem
namespace ErrBadMenu
open PySem.W PySem.Calls PyProof.Rows PySem.HandSPX
def iA (p1 p2 : Pos) : Arguments := { posonlyargs := [], args := [{ arg := "self", annotation := none, pos := p1 }, { arg := "index", annotation := none, pos := p2 }], vararg := none, kwonlyargs := [], kw_defaults := [], kwarg := none, defaults := [] }
def iB (q1 q2 q3 q4 : Pos) : List Stmt := [.Assign [.Attribute (.Name "self" q1) "index" q2] (.Name "index" q3) q4]
def iS : Scope := { kind := .function, names := [(PySem.Str.ofString "self", .local), (PySem.Str.ofString "index", .local)], isGenerator := false, isCoroutine := false, more := [] }
/-- what the written part says of Low, at C, and of its __init__, at fI -/
structure LowTxt (K : Frag) (mg : Str → Option Value) (C fI : Addr) : Prop where
  gC : mg "BadMenu" = some (.ref C)
  cls : ∃ nm q N bs bm sn sub ab col dd k0 k1 k2 k3 k5, K.lookup C = some (excClassObj nm q C N bs bm true sn sub ab col dd k0 k1 k2 k3 k5 "ValueError.__new__") ∧ refsVE bm = true
  sa : findIn K (.ref C) "__setattr__" = some (some (.builtin "object.__setattr__"))
  ga : findIn K (.ref C) "__getattribute__" = some (some (.builtin "BaseException.__getattribute__"))
  gg : findIn K (.ref C) "__getattr__" = some none
  noN : findIn K (.ref C) "index" = some none
  iC : findIn K (.ref C) "__init__" = some (some (.ref fI))
  tC : typeIn K (.ref fI) = some (.type "function")
  kC : keepIn K (.ref C) = true
  exC : subIn K (.ref C) (.type "BaseException") = some true
  tyC : typeIn K (.ref C) = some (.type "type")
  hdC : hasDictIn K C = true
  te : exmOne K (.ref C) (.ref C) = some true
  fn : ∃ (oc : Value) (od : Option Addr) (doc pm : Value) (an : Option Addr) (cdv ct : Value) (osl : Array (Option Value)) (p1 p2 q1 q2 q3 q4 : Pos),
    K.lookup fI = some ⟨oc, od, .func (fnOf "__init__" "BadMenu.__init__" (iA p1 p2) (iB q1 q2 q3 q4) iS .none .none doc pm an cdv ct), osl⟩ ∧ codeIn K cdv "BadMenu.__init__" = true
theorem one_size (v : Value) : [v].length ≤ sizeLine := by
  rw [sizeLine_eq]
  exact (by decide : 1 ≤ 16777216)
theorem ldC {M : Model} {s : Shared} {name : Str} {scope : Scope} {L a : Addr} {cd : Value} {m : Str → Option Value} {x : Str} {pos : Pos} {v : Value} {Q : Value → Shared → Prop} {A : Around} {E : Value → Shared → Prop} (hn : s.heap.Ns L m) (hv : m x = some v) (h : Q v s)
    (hk : scope.kind = .function := by rfl) (hl : (envOfC name scope L a cd).kindOf x = some .local := by rfl) (hd : (x == ("__debug__" : Str)) = false := by decide) :
    wpAny M A (eval (.Name x pos) (envOfC name scope L a cd)) Q E s := wpAny_Name (wpAny_loadName_local hk hl hn hv h) hd
/-- what __init__ leaves of a fresh exception at x -/
structure InitEnd (h h' : Heap) (x C dx t1 : Addr) (v : Value) : Prop where
  keep : ∀ b o, b ≠ x → h.get? b = some o → h'.get? b = some o
  obj : h'.get? x = some { cls := .ref C, dict := some dx, data := .fields #[.ref t1, .none, .none, .none, .bool false, .none] }
  dbig : h.objs.size ≤ dx
  dne : dx ≠ x
  ns : h'.Ns1 dx (fun y => if y = "index" then some v else none)
/-- a made Low -/
structure OwnMade (h h' : Heap) (e C d : Addr) (v : Value) : Prop where
  keep : ∀ b o, h.get? b = some o → h'.get? b = some o
  new : h.objs.size ≤ e
  obj : ∃ oe vs, h'.get? e = some oe ∧ oe.cls = .ref C ∧ oe.dict = some d ∧ oe.data = .fields vs ∧ vs[1]? = some .none
  dbig : h.objs.size ≤ d
  dne : d ≠ e
  ns : h'.Ns1 d (fun y => if y = "index" then some v else none)
section
variable {prog : Program} {w : World} {A : Around} {E : Value → Shared → Prop} {R : Result → Shared → Prop} {s : Shared} {K : Frag} {mg : Str → Option Value} {C fI : Addr}
theorem low_init (T : LowTxt K mg C fI) {x t0 : Addr} {v : Value} (X : K.In s.heap) (hlim : s.heap.NoLimit) (hx : s.heap.get? x = some (excO C t0)) (hnx : K.lookup x = none) (hroom : A.depth < recursionLimit)
    (hq : ∀ h' tk dx, InitEnd s.heap h' x C dx t0 v → R (.ok (.ret .none)) { s with heap := h', toks := tk }) :
    codeAny (model prog w) A (.call (.ref fI) ⟨[.ref x, v], []⟩) R s := by
  obtain ⟨oc, od, doc, pm, an, cdv, ct, osl, p1, p2, q1, q2, q3, q4, ho, hcd⟩ := T.fn
  obtain ⟨nm, q, N, bs, bm, sn, sub, ab, col, dd, k0, k1, k2, k3, k5, hC, hbm⟩ := T.cls
  have hcl : clsIn K C = some { name := nm, bases := bs, mro := .ref C :: bm, ns := N, qualname := q, hasDict := true, slotNames := sn, subclasses := sub, abstract := ab, collection := col, hasDel := false } := by unfold clsIn; rw [hC] <;> rfl
  refine Att.call_fn (binds := [("self", .ref x), ("index", v)]) X hlim ho hcd hroom (BindsTo.of_eq (by first | rfl | with_unfolding_all rfl)) (by first | rfl | decide | with_unfolding_all rfl) (fun s₁ IC => ?_) rfl rfl rfl
  obtain ⟨h₁, tk₁, rfl⟩ := IC.toInCall.same
  have k : ∀ b o, s.heap.get? b = some o → h₁.get? b = some o := IC.toInCall.keep
  have hn := IC.toInCall.ns
  have hxL : s.heap.objs.size ≠ x := Nat.ne_of_gt (Heap.lt_size hx)
  have X₁ : K.In h₁ := X.keeps k
  have hx₁ := k _ _ hx
  -- self.by = by
  show wpAny _ _ (execs _ _) _ _ _
  refine wpAny_execs_cons (plainObj_wpAny_Assign_Attribute ?_)
  refine ldC (v := v) hn (by first | rfl | with_unfolding_all rfl | kernel_rfl) (ldC (v := .ref x) hn (by first | rfl | with_unfolding_all rfl | kernel_rfl) ?_)
  refine set_plain X₁ (ox := excO C t0) (od := none) ⟨hx₁, rfl, rfl, trivial⟩ T.sa ?_
  refine exc_osa X₁ hx₁ hcl (show refsVE (.ref C :: bm) = true from hbm) rfl T.noN (fun h₃ tk₃ dx k₃ dn dne hx₃ hn₃ => ?_)
  show wpAny _ _ (execs _ _) _ _ _
  have z : s.heap.objs.size < h₁.objs.size := hn.lt
  exact wpAny_execs_nil (hq h₃ tk₃ dx ⟨fun b o hb e => k₃ b o hb (k b o e), hx₃, Nat.le_of_lt (Nat.lt_of_lt_of_le z dn), dne, hn₃⟩)
theorem low_made (T : LowTxt K mg C fI) {v : Value} (X : K.In s.heap) (hlim : s.heap.NoLimit) (hroom : A.depth + 1 < recursionLimit)
    (hq : ∀ h' tk e d, OwnMade s.heap h' e C d v → R (.ok (.ret (.ref e))) { s with heap := h', toks := tk }) :
    codeAny (model prog w) A (.call (.ref C) ⟨[v], []⟩) R s := by
  obtain ⟨nm, q, N, bs, bm, sn, sub, ab, col, dd, k0, k1, k2, k3, k5, hC, hbm⟩ := T.cls
  obtain ⟨hp, g, dr, tk, os⟩ := s
  have k : ∀ b o, hp.get? b = some o → ((hp.push (kdv_tup [v])).push (excO C hp.objs.size)).get? b = some o := fun b o e => Heap.get?_push_of_some _ (Heap.get?_push_of_some _ e)
  have hget : ((hp.push (kdv_tup [v])).push (excO C hp.objs.size)).get? (hp.objs.size + 1) = some (excO C hp.objs.size) := by heap_get
  have hnx : K.lookup (hp.objs.size + 1) = none := by
    cases e : K.lookup (hp.objs.size + 1) with
    | none => rfl
    | some o =>
      have z : hp.get? (hp.objs.size + 1) = some o := X _ _ e
      exact absurd (Nat.lt_of_succ_lt (Heap.lt_size z)) (Nat.lt_irrefl _)
  refine call_own F.excBase_ValueError (fun X => refsVE_contains X bm hbm) (X _ _ hC) (looks_findIn X T.iC) (fun self => bind_fn X self T.tC) (one_size v) ?_
  refine low_init (s := ⟨(hp.push (kdv_tup [v])).push (excO C hp.objs.size), g, dr, tk, os⟩) T (X.keeps k) (hlim.keeps k) hget hnx ?_ fun h' tk' dx ⟨k', hx, dn, dne, hns⟩ => ?_
  · show A.depth + 1 < recursionLimit
    exact hroom
  · have old : ∀ b o, hp.get? b = some o → h'.get? b = some o := fun b o e => k' b o (Nat.ne_of_lt (Nat.lt_succ_of_lt (Heap.lt_size e))) (k b o e)
    have z : hp.objs.size + 1 + 1 ≤ dx := by
      first
        | (simpa only [Heap.size_push] using dn)
        | exact dn
        | (have q := dn; rw [Heap.size_push, Heap.size_push] at q; exact q)
    exact ⟨rfl, hq h' tk' (hp.objs.size + 1) dx ⟨old, Nat.le_succ _, ⟨_, _, hx, rfl, rfl, rfl, rfl⟩, Nat.le_trans (Nat.le_trans (Nat.le_succ _) (Nat.le_succ _)) z, dne, hns⟩⟩
theorem low_initK (T : LowTxt K mg C fI) {x t0 : Addr} {v : Value} (X : K.In s.heap) (hlim : s.heap.NoLimit) (hx : s.heap.get? x = some (excO C t0)) (hnx : K.lookup x = none) (hroom : A.depth < recursionLimit)
    (hq : ∀ h' tk dx, InitEnd s.heap h' x C dx t0 v → R (.ok (.ret .none)) { s with heap := h', toks := tk }) :
    codeAny (model prog w) A (.call (.ref fI) ⟨[.ref x], [("index", v)]⟩) R s := by
  obtain ⟨oc, od, doc, pm, an, cdv, ct, osl, p1, p2, q1, q2, q3, q4, ho, hcd⟩ := T.fn
  obtain ⟨nm, q, N, bs, bm, sn, sub, ab, col, dd, k0, k1, k2, k3, k5, hC, hbm⟩ := T.cls
  have hcl : clsIn K C = some { name := nm, bases := bs, mro := .ref C :: bm, ns := N, qualname := q, hasDict := true, slotNames := sn, subclasses := sub, abstract := ab, collection := col, hasDel := false } := by unfold clsIn; rw [hC] <;> rfl
  refine Att.call_fn (binds := [("self", .ref x), ("index", v)]) X hlim ho hcd hroom (BindsTo.of_eq (by first | rfl | with_unfolding_all rfl)) (by first | rfl | decide | with_unfolding_all rfl) (fun s₁ IC => ?_) rfl rfl rfl
  obtain ⟨h₁, tk₁, rfl⟩ := IC.toInCall.same
  have k : ∀ b o, s.heap.get? b = some o → h₁.get? b = some o := IC.toInCall.keep
  have hn := IC.toInCall.ns
  have hxL : s.heap.objs.size ≠ x := Nat.ne_of_gt (Heap.lt_size hx)
  have X₁ : K.In h₁ := X.keeps k
  have hx₁ := k _ _ hx
  -- self.by = by
  show wpAny _ _ (execs _ _) _ _ _
  refine wpAny_execs_cons (plainObj_wpAny_Assign_Attribute ?_)
  refine ldC (v := v) hn (by first | rfl | with_unfolding_all rfl | kernel_rfl) (ldC (v := .ref x) hn (by first | rfl | with_unfolding_all rfl | kernel_rfl) ?_)
  refine set_plain X₁ (ox := excO C t0) (od := none) ⟨hx₁, rfl, rfl, trivial⟩ T.sa ?_
  refine exc_osa X₁ hx₁ hcl (show refsVE (.ref C :: bm) = true from hbm) rfl T.noN (fun h₃ tk₃ dx k₃ dn dne hx₃ hn₃ => ?_)
  show wpAny _ _ (execs _ _) _ _ _
  have z : s.heap.objs.size < h₁.objs.size := hn.lt
  exact wpAny_execs_nil (hq h₃ tk₃ dx ⟨fun b o hb e => k₃ b o hb (k b o e), hx₃, Nat.le_of_lt (Nat.lt_of_lt_of_le z dn), dne, hn₃⟩)
theorem low_madeK (T : LowTxt K mg C fI) {v : Value} (X : K.In s.heap) (hlim : s.heap.NoLimit) (hroom : A.depth + 1 < recursionLimit)
    (hq : ∀ h' tk e d, OwnMade s.heap h' e C d v → R (.ok (.ret (.ref e))) { s with heap := h', toks := tk }) :
    codeAny (model prog w) A (.call (.ref C) ⟨[], [("index", v)]⟩) R s := by
  obtain ⟨nm, q, N, bs, bm, sn, sub, ab, col, dd, k0, k1, k2, k3, k5, hC, hbm⟩ := T.cls
  obtain ⟨hp, g, dr, tk, os⟩ := s
  have k : ∀ b o, hp.get? b = some o → ((hp.push (kdv_tup [])).push (excO C hp.objs.size)).get? b = some o := fun b o e => Heap.get?_push_of_some _ (Heap.get?_push_of_some _ e)
  have hget : ((hp.push (kdv_tup [])).push (excO C hp.objs.size)).get? (hp.objs.size + 1) = some (excO C hp.objs.size) := by heap_get
  have hnx : K.lookup (hp.objs.size + 1) = none := by
    cases e : K.lookup (hp.objs.size + 1) with
    | none => rfl
    | some o =>
      have z : hp.get? (hp.objs.size + 1) = some o := X _ _ e
      exact absurd (Nat.lt_of_succ_lt (Heap.lt_size z)) (Nat.lt_irrefl _)
  refine call_kw F.excBase_ValueError (fun X => refsVE_contains X bm hbm) (X _ _ hC) (looks_findIn X T.iC) (fun self => bind_fn X self T.tC) ?_
  refine low_initK (s := ⟨(hp.push (kdv_tup [])).push (excO C hp.objs.size), g, dr, tk, os⟩) T (X.keeps k) (hlim.keeps k) hget hnx ?_ fun h' tk' dx ⟨k', hx, dn, dne, hns⟩ => ?_
  · show A.depth + 1 < recursionLimit
    exact hroom
  · have old : ∀ b o, hp.get? b = some o → h'.get? b = some o := fun b o e => k' b o (Nat.ne_of_lt (Nat.lt_succ_of_lt (Heap.lt_size e))) (k b o e)
    have z : hp.objs.size + 1 + 1 ≤ dx := by
      first
        | (simpa only [Heap.size_push] using dn)
        | exact dn
        | (have q := dn; rw [Heap.size_push, Heap.size_push] at q; exact q)
    exact ⟨rfl, hq h' tk' (hp.objs.size + 1) dx ⟨old, Nat.le_succ _, ⟨_, _, hx, rfl, rfl, rfl, rfl⟩, Nat.le_trans (Nat.le_trans (Nat.le_succ _) (Nat.le_succ _)) z, dne, hns⟩⟩
end
end ErrBadMenu
end PySem
namespace L2
open PySem PySem.Spec PyProof.Rows
theorem relO_low_BadMenu {v : V} {v' : Value} (r : RelV v v') (f : Str) : RelO (List.lookup f [(("index" : Str), v)]) (if f = "index" then some v' else none) := by
  by_cases hw : f = "index"
  · subst hw
    rw [if_pos rfl]
    have q : List.lookup ("index" : Str) [(("index" : Str), v)] = some v := by simp [List.lookup]
    rw [q]
    exact r
  · rw [if_neg hw]
    have qw : (f == ("index" : Str)) = false := by simpa using hw
    have q2 : List.lookup f [(("index" : Str), v)] = none := by simp [List.lookup, qw]
    rw [q2]
    trivial
section
variable {X : Cx} {C fI : Addr}
/-- Low(e) -/
def tMkLow_BadMenu (C : Addr) (ta : TA) : St → Hp → XK → Prop := fun σ H Q => ta σ H fun vs H1 => ∃ v, vs = [v] ∧ ∀ d, H1 d = none → Q (.ref C) (some d) (upd H1 d (.xd [(("index" : Str), v)]))
theorem pmk_low_BadMenu {a : Expr} {ta : TA} {p pos : Pos} {k : Nat} (T : PySem.ErrBadMenu.LowTxt X.K X.mg C fI) (hr : Room k X.A) (ha : PA X [a] ta) (hg : Gl X "BadMenu" := by rfl)
    (he : starEach (a :: []) X.env = (false, eval a X.env) :: starEach [] X.env := by rfl) (hpl : (backTo pos (starEach [] X.env)).any (·.1) = false := by rfl) :
    PMk X (.Call (.Name "BadMenu" p) [a] [] pos) (tMkLow_BadMenu C ta) := by
  intro pins s σ H Q I h
  refine wpAny_Call_Name_kw (ld_glob I hg T.gC ?_)
  refine PySem.W.callWith_K (h₀ := X.base) I.ok.mod.kin T.kC (thn (ha.run pos pins s σ H _ I h) fun us s1 hh => ?_) he hpl
  obtain ⟨vs, H1, I1, r1, v, ev, q1⟩ := hh
  subst ev
  refine ⟨I1.kIn, ?_⟩
  cases r1 with
  | cons rv rn =>
    rename_i v' us'
    cases rn
    show wpAny _ _ (call (.ref C) [v']) _ _ _
    have hlim := I1.nolimit
    obtain ⟨hp, g, dr, tk, os⟩ := s1
    refine wpAny_call (PySem.ErrBadMenu.low_made T I1.kIn hlim (by have := hr.dp; omega) fun h' tk' e d M => ?_)
    show MkP X pins σ Q (.ref e) ⟨h', g, dr, tk', os⟩
    obtain ⟨oe, fv, hoe, hc, hd, hdat, h1⟩ := M.obj
    have hns := M.ns
    obtain ⟨G', g1, g2⟩ := restrict h' fun b => decide (b ≠ e)
    have gk : ∀ b, b ≠ e → G'.get? b = h'.get? b := fun b hb => g1 b (decide_eq_true hb)
    have ge : G'.get? e = none := g2 e (by simp)
    have old : ∀ b o, hp.get? b = some o → G'.get? b = some o := fun b o q => (gk b (Nat.ne_of_lt (Nat.lt_of_lt_of_le (Heap.lt_size q) M.new))).trans (M.keep b o q)
    have ob : ObjOk X.prog X.w (upd H1 d (.xd [(("index" : Str), v)])) G' d (.xd [(("index" : Str), v)]) :=
      ⟨_, hns.at (fun o q => (gk d M.dne).trans q), fun f => relO_low_BadMenu rv f⟩
    have J : Inv X pins σ (upd H1 d (.xd [(("index" : Str), v)])) ⟨G', g, dr, tk', os⟩ := I1.laid (t' := tk') old M.dbig ob
    refine ⟨e, oe, fv, ⟨G', g, dr, tk', os⟩, _, .ref C, some d, rfl, J, fun b o q => ?_, ge, hoe, ⟨hc, hd⟩, hdat, h1, ?_, rfl, I1.bare, raises_own T.exC T.tyC, q1 d (I1.hok.fresh M.dbig)⟩
    · by_cases hb : b = e
      · have q' : G'.get? b = some o := q
        rw [hb, ge] at q'; cases q'
      · exact (gk b hb).symm.trans q
    · rw [upd_ne (Ne.symm M.dne)]
      exact I1.hok.fresh M.new
/-- raise Low(e) -/
def tRaiseLow_BadMenu (C : Addr) (W : WX) (ta : TA) : TS := fun _ σ H => tMkLow_BadMenu C ta σ H fun cls d H' => W cls d σ H'
theorem ps_raiseLow_BadMenu {a : Expr} {ta : TA} {W : WX} {p pos pos2 : Pos} {k : Nat} (hc : X.calm = true) (T : PySem.ErrBadMenu.LowTxt X.K X.mg C fI) (hr : Room k X.A) (tk : Takes X W) (ha : PA X [a] ta) (hg : Gl X "BadMenu" := by rfl)
    (he : starEach (a :: []) X.env = (false, eval a X.env) :: starEach [] X.env := by rfl) (hpl : (backTo pos (starEach [] X.env)).any (·.1) = false := by rfl) :
    PS X (.Raise (some (.Call (.Name "BadMenu" p) [a] [] pos)) none pos2) (tRaiseLow_BadMenu C W ta) := ps_raise hc tk (pmk_low_BadMenu T hr ha hg he hpl)
/-- C(f = e).f -/
theorem pe_namk_BadMenu {e : Expr} {te : TE} {p kp pos pos2 : Pos} {k : Nat} (T : PySem.ErrBadMenu.LowTxt X.K X.mg C fI) (hr : Room k X.A) (he : PE X e te) (hg : Gl X "BadMenu" := by rfl)
    (hall : (backToKw pos (keywordEach [⟨some "index", e, kp⟩] X.env)).all (·.1.isSome) = true := by rfl) (hks : (backToKw pos (keywordEach [⟨some "index", e, kp⟩] X.env)).filterMap (·.1) = [("index" : Str)] := by rfl)
    (hpl : ((backTo pos (starEach [] X.env)).any (·.1) || (backToKw pos (keywordEach [⟨some "index", e, kp⟩] X.env)).any (·.1.isNone)) = false := by rfl)
    (hb : attributeBase (.Call (.Name "BadMenu" p) [] [⟨some "index", e, kp⟩] pos) "index" X.env (eval (.Call (.Name "BadMenu" p) [] [⟨some "index", e, kp⟩] pos) X.env) = eval (.Call (.Name "BadMenu" p) [] [⟨some "index", e, kp⟩] pos) X.env := by rfl) :
    PE X (.Attribute (.Call (.Name "BadMenu" p) [] [⟨some "index", e, kp⟩] pos) "index" pos2) te := by
  refine ⟨fun pins s σ H Q I h => ?_⟩
  refine attr_of hb ?_
  refine wpAny_Call_Name_kw (ld_glob I hg T.gC ?_)
  refine PySem.W.callWith_KW0 (h₀ := X.base) I.ok.mod.kin T.kC hall (thn ((pk_one he).run pos pins s σ H (fun zs H2 => match zs with | [v] => Q v H2 | _ => False) I h) fun us s1 hh => ?_) hpl
  obtain ⟨vs, H1, I1, r1, q1⟩ := hh
  refine ⟨I1.kIn, ?_⟩
  rw [hks]
  match vs, us, r1, q1 with
  | [v], [v'], .cons rv .nil, q1 =>
    have hlim := I1.nolimit
    obtain ⟨hp, g, dr, tk, os⟩ := s1
    refine wpAny_call (PySem.ErrBadMenu.low_madeK T I1.kIn hlim (by have := hr.dp; omega) fun h' tk' e d M => ?_)
    show wpAny _ _ (getAttr (.ref e) "index" true) _ _ ⟨h', g, dr, tk', os⟩
    obtain ⟨oe, fv, hoe, hc, hd, hdat, h1⟩ := M.obj
    obtain ⟨od, hod, hl⟩ := lookIn_ns M.ns
    have J : PySem.W.InstAt h' e oe C (some od) := ⟨hoe, hc, by unfold PySem.W.notCls; rw [hdat] <;> rfl, by rw [hd]; exact hod⟩
    have I2 : Inv X pins σ H1 ⟨h', g, dr, tk', os⟩ := I1.kept (t' := tk') M.keep
    exact HandSPX.exc_get I2.kIn J T.ga T.gg T.exC (PySem.W.findObj_own T.hdC T.noN rfl (by rw [hl, if_pos rfl])) (handed_of rv) ⟨v, H1, I2.tok _, rv, q1⟩
end
end L2
namespace PySem
namespace ErrBadText
open PySem.W PySem.Calls PyProof.Rows PySem.HandSPX
def iA (p1 p2 : Pos) : Arguments := { posonlyargs := [], args := [{ arg := "self", annotation := none, pos := p1 }, { arg := "line", annotation := none, pos := p2 }], vararg := none, kwonlyargs := [], kw_defaults := [], kwarg := none, defaults := [] }
def iB (q1 q2 q3 q4 : Pos) : List Stmt := [.Assign [.Attribute (.Name "self" q1) "line" q2] (.Name "line" q3) q4]
def iS : Scope := { kind := .function, names := [(PySem.Str.ofString "self", .local), (PySem.Str.ofString "line", .local)], isGenerator := false, isCoroutine := false, more := [] }
/-- what the written part says of Low, at C, and of its __init__, at fI -/
structure LowTxt (K : Frag) (mg : Str → Option Value) (C fI : Addr) : Prop where
  gC : mg "BadText" = some (.ref C)
  cls : ∃ nm q N bs bm sn sub ab col dd k0 k1 k2 k3 k5, K.lookup C = some (excClassObj nm q C N bs bm true sn sub ab col dd k0 k1 k2 k3 k5 "ValueError.__new__") ∧ refsVE bm = true
  sa : findIn K (.ref C) "__setattr__" = some (some (.builtin "object.__setattr__"))
  ga : findIn K (.ref C) "__getattribute__" = some (some (.builtin "BaseException.__getattribute__"))
  gg : findIn K (.ref C) "__getattr__" = some none
  noN : findIn K (.ref C) "line" = some none
  iC : findIn K (.ref C) "__init__" = some (some (.ref fI))
  tC : typeIn K (.ref fI) = some (.type "function")
  kC : keepIn K (.ref C) = true
  exC : subIn K (.ref C) (.type "BaseException") = some true
  tyC : typeIn K (.ref C) = some (.type "type")
  hdC : hasDictIn K C = true
  te : exmOne K (.ref C) (.ref C) = some true
  fn : ∃ (oc : Value) (od : Option Addr) (doc pm : Value) (an : Option Addr) (cdv ct : Value) (osl : Array (Option Value)) (p1 p2 q1 q2 q3 q4 : Pos),
    K.lookup fI = some ⟨oc, od, .func (fnOf "__init__" "BadText.__init__" (iA p1 p2) (iB q1 q2 q3 q4) iS .none .none doc pm an cdv ct), osl⟩ ∧ codeIn K cdv "BadText.__init__" = true
theorem one_size (v : Value) : [v].length ≤ sizeLine := by
  rw [sizeLine_eq]
  exact (by decide : 1 ≤ 16777216)
theorem ldC {M : Model} {s : Shared} {name : Str} {scope : Scope} {L a : Addr} {cd : Value} {m : Str → Option Value} {x : Str} {pos : Pos} {v : Value} {Q : Value → Shared → Prop} {A : Around} {E : Value → Shared → Prop} (hn : s.heap.Ns L m) (hv : m x = some v) (h : Q v s)
    (hk : scope.kind = .function := by rfl) (hl : (envOfC name scope L a cd).kindOf x = some .local := by rfl) (hd : (x == ("__debug__" : Str)) = false := by decide) :
    wpAny M A (eval (.Name x pos) (envOfC name scope L a cd)) Q E s := wpAny_Name (wpAny_loadName_local hk hl hn hv h) hd
/-- what __init__ leaves of a fresh exception at x -/
structure InitEnd (h h' : Heap) (x C dx t1 : Addr) (v : Value) : Prop where
  keep : ∀ b o, b ≠ x → h.get? b = some o → h'.get? b = some o
  obj : h'.get? x = some { cls := .ref C, dict := some dx, data := .fields #[.ref t1, .none, .none, .none, .bool false, .none] }
  dbig : h.objs.size ≤ dx
  dne : dx ≠ x
  ns : h'.Ns1 dx (fun y => if y = "line" then some v else none)
/-- a made Low -/
structure OwnMade (h h' : Heap) (e C d : Addr) (v : Value) : Prop where
  keep : ∀ b o, h.get? b = some o → h'.get? b = some o
  new : h.objs.size ≤ e
  obj : ∃ oe vs, h'.get? e = some oe ∧ oe.cls = .ref C ∧ oe.dict = some d ∧ oe.data = .fields vs ∧ vs[1]? = some .none
  dbig : h.objs.size ≤ d
  dne : d ≠ e
  ns : h'.Ns1 d (fun y => if y = "line" then some v else none)
section
variable {prog : Program} {w : World} {A : Around} {E : Value → Shared → Prop} {R : Result → Shared → Prop} {s : Shared} {K : Frag} {mg : Str → Option Value} {C fI : Addr}
theorem low_init (T : LowTxt K mg C fI) {x t0 : Addr} {v : Value} (X : K.In s.heap) (hlim : s.heap.NoLimit) (hx : s.heap.get? x = some (excO C t0)) (hnx : K.lookup x = none) (hroom : A.depth < recursionLimit)
    (hq : ∀ h' tk dx, InitEnd s.heap h' x C dx t0 v → R (.ok (.ret .none)) { s with heap := h', toks := tk }) :
    codeAny (model prog w) A (.call (.ref fI) ⟨[.ref x, v], []⟩) R s := by
  obtain ⟨oc, od, doc, pm, an, cdv, ct, osl, p1, p2, q1, q2, q3, q4, ho, hcd⟩ := T.fn
  obtain ⟨nm, q, N, bs, bm, sn, sub, ab, col, dd, k0, k1, k2, k3, k5, hC, hbm⟩ := T.cls
  have hcl : clsIn K C = some { name := nm, bases := bs, mro := .ref C :: bm, ns := N, qualname := q, hasDict := true, slotNames := sn, subclasses := sub, abstract := ab, collection := col, hasDel := false } := by unfold clsIn; rw [hC] <;> rfl
  refine Att.call_fn (binds := [("self", .ref x), ("line", v)]) X hlim ho hcd hroom (BindsTo.of_eq (by first | rfl | with_unfolding_all rfl)) (by first | rfl | decide | with_unfolding_all rfl) (fun s₁ IC => ?_) rfl rfl rfl
  obtain ⟨h₁, tk₁, rfl⟩ := IC.toInCall.same
  have k : ∀ b o, s.heap.get? b = some o → h₁.get? b = some o := IC.toInCall.keep
  have hn := IC.toInCall.ns
  have hxL : s.heap.objs.size ≠ x := Nat.ne_of_gt (Heap.lt_size hx)
  have X₁ : K.In h₁ := X.keeps k
  have hx₁ := k _ _ hx
  -- self.by = by
  show wpAny _ _ (execs _ _) _ _ _
  refine wpAny_execs_cons (plainObj_wpAny_Assign_Attribute ?_)
  refine ldC (v := v) hn (by first | rfl | with_unfolding_all rfl | kernel_rfl) (ldC (v := .ref x) hn (by first | rfl | with_unfolding_all rfl | kernel_rfl) ?_)
  refine set_plain X₁ (ox := excO C t0) (od := none) ⟨hx₁, rfl, rfl, trivial⟩ T.sa ?_
  refine exc_osa X₁ hx₁ hcl (show refsVE (.ref C :: bm) = true from hbm) rfl T.noN (fun h₃ tk₃ dx k₃ dn dne hx₃ hn₃ => ?_)
  show wpAny _ _ (execs _ _) _ _ _
  have z : s.heap.objs.size < h₁.objs.size := hn.lt
  exact wpAny_execs_nil (hq h₃ tk₃ dx ⟨fun b o hb e => k₃ b o hb (k b o e), hx₃, Nat.le_of_lt (Nat.lt_of_lt_of_le z dn), dne, hn₃⟩)
theorem low_made (T : LowTxt K mg C fI) {v : Value} (X : K.In s.heap) (hlim : s.heap.NoLimit) (hroom : A.depth + 1 < recursionLimit)
    (hq : ∀ h' tk e d, OwnMade s.heap h' e C d v → R (.ok (.ret (.ref e))) { s with heap := h', toks := tk }) :
    codeAny (model prog w) A (.call (.ref C) ⟨[v], []⟩) R s := by
  obtain ⟨nm, q, N, bs, bm, sn, sub, ab, col, dd, k0, k1, k2, k3, k5, hC, hbm⟩ := T.cls
  obtain ⟨hp, g, dr, tk, os⟩ := s
  have k : ∀ b o, hp.get? b = some o → ((hp.push (kdv_tup [v])).push (excO C hp.objs.size)).get? b = some o := fun b o e => Heap.get?_push_of_some _ (Heap.get?_push_of_some _ e)
  have hget : ((hp.push (kdv_tup [v])).push (excO C hp.objs.size)).get? (hp.objs.size + 1) = some (excO C hp.objs.size) := by heap_get
  have hnx : K.lookup (hp.objs.size + 1) = none := by
    cases e : K.lookup (hp.objs.size + 1) with
    | none => rfl
    | some o =>
      have z : hp.get? (hp.objs.size + 1) = some o := X _ _ e
      exact absurd (Nat.lt_of_succ_lt (Heap.lt_size z)) (Nat.lt_irrefl _)
  refine call_own F.excBase_ValueError (fun X => refsVE_contains X bm hbm) (X _ _ hC) (looks_findIn X T.iC) (fun self => bind_fn X self T.tC) (one_size v) ?_
  refine low_init (s := ⟨(hp.push (kdv_tup [v])).push (excO C hp.objs.size), g, dr, tk, os⟩) T (X.keeps k) (hlim.keeps k) hget hnx ?_ fun h' tk' dx ⟨k', hx, dn, dne, hns⟩ => ?_
  · show A.depth + 1 < recursionLimit
    exact hroom
  · have old : ∀ b o, hp.get? b = some o → h'.get? b = some o := fun b o e => k' b o (Nat.ne_of_lt (Nat.lt_succ_of_lt (Heap.lt_size e))) (k b o e)
    have z : hp.objs.size + 1 + 1 ≤ dx := by
      first
        | (simpa only [Heap.size_push] using dn)
        | exact dn
        | (have q := dn; rw [Heap.size_push, Heap.size_push] at q; exact q)
    exact ⟨rfl, hq h' tk' (hp.objs.size + 1) dx ⟨old, Nat.le_succ _, ⟨_, _, hx, rfl, rfl, rfl, rfl⟩, Nat.le_trans (Nat.le_trans (Nat.le_succ _) (Nat.le_succ _)) z, dne, hns⟩⟩
theorem low_initK (T : LowTxt K mg C fI) {x t0 : Addr} {v : Value} (X : K.In s.heap) (hlim : s.heap.NoLimit) (hx : s.heap.get? x = some (excO C t0)) (hnx : K.lookup x = none) (hroom : A.depth < recursionLimit)
    (hq : ∀ h' tk dx, InitEnd s.heap h' x C dx t0 v → R (.ok (.ret .none)) { s with heap := h', toks := tk }) :
    codeAny (model prog w) A (.call (.ref fI) ⟨[.ref x], [("line", v)]⟩) R s := by
  obtain ⟨oc, od, doc, pm, an, cdv, ct, osl, p1, p2, q1, q2, q3, q4, ho, hcd⟩ := T.fn
  obtain ⟨nm, q, N, bs, bm, sn, sub, ab, col, dd, k0, k1, k2, k3, k5, hC, hbm⟩ := T.cls
  have hcl : clsIn K C = some { name := nm, bases := bs, mro := .ref C :: bm, ns := N, qualname := q, hasDict := true, slotNames := sn, subclasses := sub, abstract := ab, collection := col, hasDel := false } := by unfold clsIn; rw [hC] <;> rfl
  refine Att.call_fn (binds := [("self", .ref x), ("line", v)]) X hlim ho hcd hroom (BindsTo.of_eq (by first | rfl | with_unfolding_all rfl)) (by first | rfl | decide | with_unfolding_all rfl) (fun s₁ IC => ?_) rfl rfl rfl
  obtain ⟨h₁, tk₁, rfl⟩ := IC.toInCall.same
  have k : ∀ b o, s.heap.get? b = some o → h₁.get? b = some o := IC.toInCall.keep
  have hn := IC.toInCall.ns
  have hxL : s.heap.objs.size ≠ x := Nat.ne_of_gt (Heap.lt_size hx)
  have X₁ : K.In h₁ := X.keeps k
  have hx₁ := k _ _ hx
  -- self.by = by
  show wpAny _ _ (execs _ _) _ _ _
  refine wpAny_execs_cons (plainObj_wpAny_Assign_Attribute ?_)
  refine ldC (v := v) hn (by first | rfl | with_unfolding_all rfl | kernel_rfl) (ldC (v := .ref x) hn (by first | rfl | with_unfolding_all rfl | kernel_rfl) ?_)
  refine set_plain X₁ (ox := excO C t0) (od := none) ⟨hx₁, rfl, rfl, trivial⟩ T.sa ?_
  refine exc_osa X₁ hx₁ hcl (show refsVE (.ref C :: bm) = true from hbm) rfl T.noN (fun h₃ tk₃ dx k₃ dn dne hx₃ hn₃ => ?_)
  show wpAny _ _ (execs _ _) _ _ _
  have z : s.heap.objs.size < h₁.objs.size := hn.lt
  exact wpAny_execs_nil (hq h₃ tk₃ dx ⟨fun b o hb e => k₃ b o hb (k b o e), hx₃, Nat.le_of_lt (Nat.lt_of_lt_of_le z dn), dne, hn₃⟩)
theorem low_madeK (T : LowTxt K mg C fI) {v : Value} (X : K.In s.heap) (hlim : s.heap.NoLimit) (hroom : A.depth + 1 < recursionLimit)
    (hq : ∀ h' tk e d, OwnMade s.heap h' e C d v → R (.ok (.ret (.ref e))) { s with heap := h', toks := tk }) :
    codeAny (model prog w) A (.call (.ref C) ⟨[], [("line", v)]⟩) R s := by
  obtain ⟨nm, q, N, bs, bm, sn, sub, ab, col, dd, k0, k1, k2, k3, k5, hC, hbm⟩ := T.cls
  obtain ⟨hp, g, dr, tk, os⟩ := s
  have k : ∀ b o, hp.get? b = some o → ((hp.push (kdv_tup [])).push (excO C hp.objs.size)).get? b = some o := fun b o e => Heap.get?_push_of_some _ (Heap.get?_push_of_some _ e)
  have hget : ((hp.push (kdv_tup [])).push (excO C hp.objs.size)).get? (hp.objs.size + 1) = some (excO C hp.objs.size) := by heap_get
  have hnx : K.lookup (hp.objs.size + 1) = none := by
    cases e : K.lookup (hp.objs.size + 1) with
    | none => rfl
    | some o =>
      have z : hp.get? (hp.objs.size + 1) = some o := X _ _ e
      exact absurd (Nat.lt_of_succ_lt (Heap.lt_size z)) (Nat.lt_irrefl _)
  refine call_kw F.excBase_ValueError (fun X => refsVE_contains X bm hbm) (X _ _ hC) (looks_findIn X T.iC) (fun self => bind_fn X self T.tC) ?_
  refine low_initK (s := ⟨(hp.push (kdv_tup [])).push (excO C hp.objs.size), g, dr, tk, os⟩) T (X.keeps k) (hlim.keeps k) hget hnx ?_ fun h' tk' dx ⟨k', hx, dn, dne, hns⟩ => ?_
  · show A.depth + 1 < recursionLimit
    exact hroom
  · have old : ∀ b o, hp.get? b = some o → h'.get? b = some o := fun b o e => k' b o (Nat.ne_of_lt (Nat.lt_succ_of_lt (Heap.lt_size e))) (k b o e)
    have z : hp.objs.size + 1 + 1 ≤ dx := by
      first
        | (simpa only [Heap.size_push] using dn)
        | exact dn
        | (have q := dn; rw [Heap.size_push, Heap.size_push] at q; exact q)
    exact ⟨rfl, hq h' tk' (hp.objs.size + 1) dx ⟨old, Nat.le_succ _, ⟨_, _, hx, rfl, rfl, rfl, rfl⟩, Nat.le_trans (Nat.le_trans (Nat.le_succ _) (Nat.le_succ _)) z, dne, hns⟩⟩
end
end ErrBadText
end PySem
namespace L2
open PySem PySem.Spec PyProof.Rows
theorem relO_low_BadText {v : V} {v' : Value} (r : RelV v v') (f : Str) : RelO (List.lookup f [(("line" : Str), v)]) (if f = "line" then some v' else none) := by
  by_cases hw : f = "line"
  · subst hw
    rw [if_pos rfl]
    have q : List.lookup ("line" : Str) [(("line" : Str), v)] = some v := by simp [List.lookup]
    rw [q]
    exact r
  · rw [if_neg hw]
    have qw : (f == ("line" : Str)) = false := by simpa using hw
    have q2 : List.lookup f [(("line" : Str), v)] = none := by simp [List.lookup, qw]
    rw [q2]
    trivial
section
variable {X : Cx} {C fI : Addr}
/-- Low(e) -/
def tMkLow_BadText (C : Addr) (ta : TA) : St → Hp → XK → Prop := fun σ H Q => ta σ H fun vs H1 => ∃ v, vs = [v] ∧ ∀ d, H1 d = none → Q (.ref C) (some d) (upd H1 d (.xd [(("line" : Str), v)]))
theorem pmk_low_BadText {a : Expr} {ta : TA} {p pos : Pos} {k : Nat} (T : PySem.ErrBadText.LowTxt X.K X.mg C fI) (hr : Room k X.A) (ha : PA X [a] ta) (hg : Gl X "BadText" := by rfl)
    (he : starEach (a :: []) X.env = (false, eval a X.env) :: starEach [] X.env := by rfl) (hpl : (backTo pos (starEach [] X.env)).any (·.1) = false := by rfl) :
    PMk X (.Call (.Name "BadText" p) [a] [] pos) (tMkLow_BadText C ta) := by
  intro pins s σ H Q I h
  refine wpAny_Call_Name_kw (ld_glob I hg T.gC ?_)
  refine PySem.W.callWith_K (h₀ := X.base) I.ok.mod.kin T.kC (thn (ha.run pos pins s σ H _ I h) fun us s1 hh => ?_) he hpl
  obtain ⟨vs, H1, I1, r1, v, ev, q1⟩ := hh
  subst ev
  refine ⟨I1.kIn, ?_⟩
  cases r1 with
  | cons rv rn =>
    rename_i v' us'
    cases rn
    show wpAny _ _ (call (.ref C) [v']) _ _ _
    have hlim := I1.nolimit
    obtain ⟨hp, g, dr, tk, os⟩ := s1
    refine wpAny_call (PySem.ErrBadText.low_made T I1.kIn hlim (by have := hr.dp; omega) fun h' tk' e d M => ?_)
    show MkP X pins σ Q (.ref e) ⟨h', g, dr, tk', os⟩
    obtain ⟨oe, fv, hoe, hc, hd, hdat, h1⟩ := M.obj
    have hns := M.ns
    obtain ⟨G', g1, g2⟩ := restrict h' fun b => decide (b ≠ e)
    have gk : ∀ b, b ≠ e → G'.get? b = h'.get? b := fun b hb => g1 b (decide_eq_true hb)
    have ge : G'.get? e = none := g2 e (by simp)
    have old : ∀ b o, hp.get? b = some o → G'.get? b = some o := fun b o q => (gk b (Nat.ne_of_lt (Nat.lt_of_lt_of_le (Heap.lt_size q) M.new))).trans (M.keep b o q)
    have ob : ObjOk X.prog X.w (upd H1 d (.xd [(("line" : Str), v)])) G' d (.xd [(("line" : Str), v)]) :=
      ⟨_, hns.at (fun o q => (gk d M.dne).trans q), fun f => relO_low_BadText rv f⟩
    have J : Inv X pins σ (upd H1 d (.xd [(("line" : Str), v)])) ⟨G', g, dr, tk', os⟩ := I1.laid (t' := tk') old M.dbig ob
    refine ⟨e, oe, fv, ⟨G', g, dr, tk', os⟩, _, .ref C, some d, rfl, J, fun b o q => ?_, ge, hoe, ⟨hc, hd⟩, hdat, h1, ?_, rfl, I1.bare, raises_own T.exC T.tyC, q1 d (I1.hok.fresh M.dbig)⟩
    · by_cases hb : b = e
      · have q' : G'.get? b = some o := q
        rw [hb, ge] at q'; cases q'
      · exact (gk b hb).symm.trans q
    · rw [upd_ne (Ne.symm M.dne)]
      exact I1.hok.fresh M.new
/-- raise Low(e) -/
def tRaiseLow_BadText (C : Addr) (W : WX) (ta : TA) : TS := fun _ σ H => tMkLow_BadText C ta σ H fun cls d H' => W cls d σ H'
theorem ps_raiseLow_BadText {a : Expr} {ta : TA} {W : WX} {p pos pos2 : Pos} {k : Nat} (hc : X.calm = true) (T : PySem.ErrBadText.LowTxt X.K X.mg C fI) (hr : Room k X.A) (tk : Takes X W) (ha : PA X [a] ta) (hg : Gl X "BadText" := by rfl)
    (he : starEach (a :: []) X.env = (false, eval a X.env) :: starEach [] X.env := by rfl) (hpl : (backTo pos (starEach [] X.env)).any (·.1) = false := by rfl) :
    PS X (.Raise (some (.Call (.Name "BadText" p) [a] [] pos)) none pos2) (tRaiseLow_BadText C W ta) := ps_raise hc tk (pmk_low_BadText T hr ha hg he hpl)
/-- C(f = e).f -/
theorem pe_namk_BadText {e : Expr} {te : TE} {p kp pos pos2 : Pos} {k : Nat} (T : PySem.ErrBadText.LowTxt X.K X.mg C fI) (hr : Room k X.A) (he : PE X e te) (hg : Gl X "BadText" := by rfl)
    (hall : (backToKw pos (keywordEach [⟨some "line", e, kp⟩] X.env)).all (·.1.isSome) = true := by rfl) (hks : (backToKw pos (keywordEach [⟨some "line", e, kp⟩] X.env)).filterMap (·.1) = [("line" : Str)] := by rfl)
    (hpl : ((backTo pos (starEach [] X.env)).any (·.1) || (backToKw pos (keywordEach [⟨some "line", e, kp⟩] X.env)).any (·.1.isNone)) = false := by rfl)
    (hb : attributeBase (.Call (.Name "BadText" p) [] [⟨some "line", e, kp⟩] pos) "line" X.env (eval (.Call (.Name "BadText" p) [] [⟨some "line", e, kp⟩] pos) X.env) = eval (.Call (.Name "BadText" p) [] [⟨some "line", e, kp⟩] pos) X.env := by rfl) :
    PE X (.Attribute (.Call (.Name "BadText" p) [] [⟨some "line", e, kp⟩] pos) "line" pos2) te := by
  refine ⟨fun pins s σ H Q I h => ?_⟩
  refine attr_of hb ?_
  refine wpAny_Call_Name_kw (ld_glob I hg T.gC ?_)
  refine PySem.W.callWith_KW0 (h₀ := X.base) I.ok.mod.kin T.kC hall (thn ((pk_one he).run pos pins s σ H (fun zs H2 => match zs with | [v] => Q v H2 | _ => False) I h) fun us s1 hh => ?_) hpl
  obtain ⟨vs, H1, I1, r1, q1⟩ := hh
  refine ⟨I1.kIn, ?_⟩
  rw [hks]
  match vs, us, r1, q1 with
  | [v], [v'], .cons rv .nil, q1 =>
    have hlim := I1.nolimit
    obtain ⟨hp, g, dr, tk, os⟩ := s1
    refine wpAny_call (PySem.ErrBadText.low_madeK T I1.kIn hlim (by have := hr.dp; omega) fun h' tk' e d M => ?_)
    show wpAny _ _ (getAttr (.ref e) "line" true) _ _ ⟨h', g, dr, tk', os⟩
    obtain ⟨oe, fv, hoe, hc, hd, hdat, h1⟩ := M.obj
    obtain ⟨od, hod, hl⟩ := lookIn_ns M.ns
    have J : PySem.W.InstAt h' e oe C (some od) := ⟨hoe, hc, by unfold PySem.W.notCls; rw [hdat] <;> rfl, by rw [hd]; exact hod⟩
    have I2 : Inv X pins σ H1 ⟨h', g, dr, tk', os⟩ := I1.kept (t' := tk') M.keep
    exact HandSPX.exc_get I2.kIn J T.ga T.gg T.exC (PySem.W.findObj_own T.hdC T.noN rfl (by rw [hl, if_pos rfl])) (handed_of rv) ⟨v, H1, I2.tok _, rv, q1⟩
end
end L2
namespace PySem
namespace ErrBadDeed
open PySem.W PySem.Calls PyProof.Rows PySem.HandSPX
def iA (p1 p2 : Pos) : Arguments := { posonlyargs := [], args := [{ arg := "self", annotation := none, pos := p1 }, { arg := "index", annotation := none, pos := p2 }], vararg := none, kwonlyargs := [], kw_defaults := [], kwarg := none, defaults := [] }
def iB (q1 q2 q3 q4 : Pos) : List Stmt := [.Assign [.Attribute (.Name "self" q1) "index" q2] (.Name "index" q3) q4]
def iS : Scope := { kind := .function, names := [(PySem.Str.ofString "self", .local), (PySem.Str.ofString "index", .local)], isGenerator := false, isCoroutine := false, more := [] }
/-- what the written part says of Low, at C, and of its __init__, at fI -/
structure LowTxt (K : Frag) (mg : Str → Option Value) (C fI : Addr) : Prop where
  gC : mg "BadDeed" = some (.ref C)
  cls : ∃ nm q N bs bm sn sub ab col dd k0 k1 k2 k3 k5, K.lookup C = some (excClassObj nm q C N bs bm true sn sub ab col dd k0 k1 k2 k3 k5 "ValueError.__new__") ∧ refsVE bm = true
  sa : findIn K (.ref C) "__setattr__" = some (some (.builtin "object.__setattr__"))
  ga : findIn K (.ref C) "__getattribute__" = some (some (.builtin "BaseException.__getattribute__"))
  gg : findIn K (.ref C) "__getattr__" = some none
  noN : findIn K (.ref C) "index" = some none
  iC : findIn K (.ref C) "__init__" = some (some (.ref fI))
  tC : typeIn K (.ref fI) = some (.type "function")
  kC : keepIn K (.ref C) = true
  exC : subIn K (.ref C) (.type "BaseException") = some true
  tyC : typeIn K (.ref C) = some (.type "type")
  hdC : hasDictIn K C = true
  te : exmOne K (.ref C) (.ref C) = some true
  fn : ∃ (oc : Value) (od : Option Addr) (doc pm : Value) (an : Option Addr) (cdv ct : Value) (osl : Array (Option Value)) (p1 p2 q1 q2 q3 q4 : Pos),
    K.lookup fI = some ⟨oc, od, .func (fnOf "__init__" "BadDeed.__init__" (iA p1 p2) (iB q1 q2 q3 q4) iS .none .none doc pm an cdv ct), osl⟩ ∧ codeIn K cdv "BadDeed.__init__" = true
theorem one_size (v : Value) : [v].length ≤ sizeLine := by
  rw [sizeLine_eq]
  exact (by decide : 1 ≤ 16777216)
theorem ldC {M : Model} {s : Shared} {name : Str} {scope : Scope} {L a : Addr} {cd : Value} {m : Str → Option Value} {x : Str} {pos : Pos} {v : Value} {Q : Value → Shared → Prop} {A : Around} {E : Value → Shared → Prop} (hn : s.heap.Ns L m) (hv : m x = some v) (h : Q v s)
    (hk : scope.kind = .function := by rfl) (hl : (envOfC name scope L a cd).kindOf x = some .local := by rfl) (hd : (x == ("__debug__" : Str)) = false := by decide) :
    wpAny M A (eval (.Name x pos) (envOfC name scope L a cd)) Q E s := wpAny_Name (wpAny_loadName_local hk hl hn hv h) hd
/-- what __init__ leaves of a fresh exception at x -/
structure InitEnd (h h' : Heap) (x C dx t1 : Addr) (v : Value) : Prop where
  keep : ∀ b o, b ≠ x → h.get? b = some o → h'.get? b = some o
  obj : h'.get? x = some { cls := .ref C, dict := some dx, data := .fields #[.ref t1, .none, .none, .none, .bool false, .none] }
  dbig : h.objs.size ≤ dx
  dne : dx ≠ x
  ns : h'.Ns1 dx (fun y => if y = "index" then some v else none)
/-- a made Low -/
structure OwnMade (h h' : Heap) (e C d : Addr) (v : Value) : Prop where
  keep : ∀ b o, h.get? b = some o → h'.get? b = some o
  new : h.objs.size ≤ e
  obj : ∃ oe vs, h'.get? e = some oe ∧ oe.cls = .ref C ∧ oe.dict = some d ∧ oe.data = .fields vs ∧ vs[1]? = some .none
  dbig : h.objs.size ≤ d
  dne : d ≠ e
  ns : h'.Ns1 d (fun y => if y = "index" then some v else none)
section
variable {prog : Program} {w : World} {A : Around} {E : Value → Shared → Prop} {R : Result → Shared → Prop} {s : Shared} {K : Frag} {mg : Str → Option Value} {C fI : Addr}
theorem low_init (T : LowTxt K mg C fI) {x t0 : Addr} {v : Value} (X : K.In s.heap) (hlim : s.heap.NoLimit) (hx : s.heap.get? x = some (excO C t0)) (hnx : K.lookup x = none) (hroom : A.depth < recursionLimit)
    (hq : ∀ h' tk dx, InitEnd s.heap h' x C dx t0 v → R (.ok (.ret .none)) { s with heap := h', toks := tk }) :
    codeAny (model prog w) A (.call (.ref fI) ⟨[.ref x, v], []⟩) R s := by
  obtain ⟨oc, od, doc, pm, an, cdv, ct, osl, p1, p2, q1, q2, q3, q4, ho, hcd⟩ := T.fn
  obtain ⟨nm, q, N, bs, bm, sn, sub, ab, col, dd, k0, k1, k2, k3, k5, hC, hbm⟩ := T.cls
  have hcl : clsIn K C = some { name := nm, bases := bs, mro := .ref C :: bm, ns := N, qualname := q, hasDict := true, slotNames := sn, subclasses := sub, abstract := ab, collection := col, hasDel := false } := by unfold clsIn; rw [hC] <;> rfl
  refine Att.call_fn (binds := [("self", .ref x), ("index", v)]) X hlim ho hcd hroom (BindsTo.of_eq (by first | rfl | with_unfolding_all rfl)) (by first | rfl | decide | with_unfolding_all rfl) (fun s₁ IC => ?_) rfl rfl rfl
  obtain ⟨h₁, tk₁, rfl⟩ := IC.toInCall.same
  have k : ∀ b o, s.heap.get? b = some o → h₁.get? b = some o := IC.toInCall.keep
  have hn := IC.toInCall.ns
  have hxL : s.heap.objs.size ≠ x := Nat.ne_of_gt (Heap.lt_size hx)
  have X₁ : K.In h₁ := X.keeps k
  have hx₁ := k _ _ hx
  -- self.by = by
  show wpAny _ _ (execs _ _) _ _ _
  refine wpAny_execs_cons (plainObj_wpAny_Assign_Attribute ?_)
  refine ldC (v := v) hn (by first | rfl | with_unfolding_all rfl | kernel_rfl) (ldC (v := .ref x) hn (by first | rfl | with_unfolding_all rfl | kernel_rfl) ?_)
  refine set_plain X₁ (ox := excO C t0) (od := none) ⟨hx₁, rfl, rfl, trivial⟩ T.sa ?_
  refine exc_osa X₁ hx₁ hcl (show refsVE (.ref C :: bm) = true from hbm) rfl T.noN (fun h₃ tk₃ dx k₃ dn dne hx₃ hn₃ => ?_)
  show wpAny _ _ (execs _ _) _ _ _
  have z : s.heap.objs.size < h₁.objs.size := hn.lt
  exact wpAny_execs_nil (hq h₃ tk₃ dx ⟨fun b o hb e => k₃ b o hb (k b o e), hx₃, Nat.le_of_lt (Nat.lt_of_lt_of_le z dn), dne, hn₃⟩)
theorem low_made (T : LowTxt K mg C fI) {v : Value} (X : K.In s.heap) (hlim : s.heap.NoLimit) (hroom : A.depth + 1 < recursionLimit)
    (hq : ∀ h' tk e d, OwnMade s.heap h' e C d v → R (.ok (.ret (.ref e))) { s with heap := h', toks := tk }) :
    codeAny (model prog w) A (.call (.ref C) ⟨[v], []⟩) R s := by
  obtain ⟨nm, q, N, bs, bm, sn, sub, ab, col, dd, k0, k1, k2, k3, k5, hC, hbm⟩ := T.cls
  obtain ⟨hp, g, dr, tk, os⟩ := s
  have k : ∀ b o, hp.get? b = some o → ((hp.push (kdv_tup [v])).push (excO C hp.objs.size)).get? b = some o := fun b o e => Heap.get?_push_of_some _ (Heap.get?_push_of_some _ e)
  have hget : ((hp.push (kdv_tup [v])).push (excO C hp.objs.size)).get? (hp.objs.size + 1) = some (excO C hp.objs.size) := by heap_get
  have hnx : K.lookup (hp.objs.size + 1) = none := by
    cases e : K.lookup (hp.objs.size + 1) with
    | none => rfl
    | some o =>
      have z : hp.get? (hp.objs.size + 1) = some o := X _ _ e
      exact absurd (Nat.lt_of_succ_lt (Heap.lt_size z)) (Nat.lt_irrefl _)
  refine call_own F.excBase_ValueError (fun X => refsVE_contains X bm hbm) (X _ _ hC) (looks_findIn X T.iC) (fun self => bind_fn X self T.tC) (one_size v) ?_
  refine low_init (s := ⟨(hp.push (kdv_tup [v])).push (excO C hp.objs.size), g, dr, tk, os⟩) T (X.keeps k) (hlim.keeps k) hget hnx ?_ fun h' tk' dx ⟨k', hx, dn, dne, hns⟩ => ?_
  · show A.depth + 1 < recursionLimit
    exact hroom
  · have old : ∀ b o, hp.get? b = some o → h'.get? b = some o := fun b o e => k' b o (Nat.ne_of_lt (Nat.lt_succ_of_lt (Heap.lt_size e))) (k b o e)
    have z : hp.objs.size + 1 + 1 ≤ dx := by
      first
        | (simpa only [Heap.size_push] using dn)
        | exact dn
        | (have q := dn; rw [Heap.size_push, Heap.size_push] at q; exact q)
    exact ⟨rfl, hq h' tk' (hp.objs.size + 1) dx ⟨old, Nat.le_succ _, ⟨_, _, hx, rfl, rfl, rfl, rfl⟩, Nat.le_trans (Nat.le_trans (Nat.le_succ _) (Nat.le_succ _)) z, dne, hns⟩⟩
theorem low_initK (T : LowTxt K mg C fI) {x t0 : Addr} {v : Value} (X : K.In s.heap) (hlim : s.heap.NoLimit) (hx : s.heap.get? x = some (excO C t0)) (hnx : K.lookup x = none) (hroom : A.depth < recursionLimit)
    (hq : ∀ h' tk dx, InitEnd s.heap h' x C dx t0 v → R (.ok (.ret .none)) { s with heap := h', toks := tk }) :
    codeAny (model prog w) A (.call (.ref fI) ⟨[.ref x], [("index", v)]⟩) R s := by
  obtain ⟨oc, od, doc, pm, an, cdv, ct, osl, p1, p2, q1, q2, q3, q4, ho, hcd⟩ := T.fn
  obtain ⟨nm, q, N, bs, bm, sn, sub, ab, col, dd, k0, k1, k2, k3, k5, hC, hbm⟩ := T.cls
  have hcl : clsIn K C = some { name := nm, bases := bs, mro := .ref C :: bm, ns := N, qualname := q, hasDict := true, slotNames := sn, subclasses := sub, abstract := ab, collection := col, hasDel := false } := by unfold clsIn; rw [hC] <;> rfl
  refine Att.call_fn (binds := [("self", .ref x), ("index", v)]) X hlim ho hcd hroom (BindsTo.of_eq (by first | rfl | with_unfolding_all rfl)) (by first | rfl | decide | with_unfolding_all rfl) (fun s₁ IC => ?_) rfl rfl rfl
  obtain ⟨h₁, tk₁, rfl⟩ := IC.toInCall.same
  have k : ∀ b o, s.heap.get? b = some o → h₁.get? b = some o := IC.toInCall.keep
  have hn := IC.toInCall.ns
  have hxL : s.heap.objs.size ≠ x := Nat.ne_of_gt (Heap.lt_size hx)
  have X₁ : K.In h₁ := X.keeps k
  have hx₁ := k _ _ hx
  -- self.by = by
  show wpAny _ _ (execs _ _) _ _ _
  refine wpAny_execs_cons (plainObj_wpAny_Assign_Attribute ?_)
  refine ldC (v := v) hn (by first | rfl | with_unfolding_all rfl | kernel_rfl) (ldC (v := .ref x) hn (by first | rfl | with_unfolding_all rfl | kernel_rfl) ?_)
  refine set_plain X₁ (ox := excO C t0) (od := none) ⟨hx₁, rfl, rfl, trivial⟩ T.sa ?_
  refine exc_osa X₁ hx₁ hcl (show refsVE (.ref C :: bm) = true from hbm) rfl T.noN (fun h₃ tk₃ dx k₃ dn dne hx₃ hn₃ => ?_)
  show wpAny _ _ (execs _ _) _ _ _
  have z : s.heap.objs.size < h₁.objs.size := hn.lt
  exact wpAny_execs_nil (hq h₃ tk₃ dx ⟨fun b o hb e => k₃ b o hb (k b o e), hx₃, Nat.le_of_lt (Nat.lt_of_lt_of_le z dn), dne, hn₃⟩)
theorem low_madeK (T : LowTxt K mg C fI) {v : Value} (X : K.In s.heap) (hlim : s.heap.NoLimit) (hroom : A.depth + 1 < recursionLimit)
    (hq : ∀ h' tk e d, OwnMade s.heap h' e C d v → R (.ok (.ret (.ref e))) { s with heap := h', toks := tk }) :
    codeAny (model prog w) A (.call (.ref C) ⟨[], [("index", v)]⟩) R s := by
  obtain ⟨nm, q, N, bs, bm, sn, sub, ab, col, dd, k0, k1, k2, k3, k5, hC, hbm⟩ := T.cls
  obtain ⟨hp, g, dr, tk, os⟩ := s
  have k : ∀ b o, hp.get? b = some o → ((hp.push (kdv_tup [])).push (excO C hp.objs.size)).get? b = some o := fun b o e => Heap.get?_push_of_some _ (Heap.get?_push_of_some _ e)
  have hget : ((hp.push (kdv_tup [])).push (excO C hp.objs.size)).get? (hp.objs.size + 1) = some (excO C hp.objs.size) := by heap_get
  have hnx : K.lookup (hp.objs.size + 1) = none := by
    cases e : K.lookup (hp.objs.size + 1) with
    | none => rfl
    | some o =>
      have z : hp.get? (hp.objs.size + 1) = some o := X _ _ e
      exact absurd (Nat.lt_of_succ_lt (Heap.lt_size z)) (Nat.lt_irrefl _)
  refine call_kw F.excBase_ValueError (fun X => refsVE_contains X bm hbm) (X _ _ hC) (looks_findIn X T.iC) (fun self => bind_fn X self T.tC) ?_
  refine low_initK (s := ⟨(hp.push (kdv_tup [])).push (excO C hp.objs.size), g, dr, tk, os⟩) T (X.keeps k) (hlim.keeps k) hget hnx ?_ fun h' tk' dx ⟨k', hx, dn, dne, hns⟩ => ?_
  · show A.depth + 1 < recursionLimit
    exact hroom
  · have old : ∀ b o, hp.get? b = some o → h'.get? b = some o := fun b o e => k' b o (Nat.ne_of_lt (Nat.lt_succ_of_lt (Heap.lt_size e))) (k b o e)
    have z : hp.objs.size + 1 + 1 ≤ dx := by
      first
        | (simpa only [Heap.size_push] using dn)
        | exact dn
        | (have q := dn; rw [Heap.size_push, Heap.size_push] at q; exact q)
    exact ⟨rfl, hq h' tk' (hp.objs.size + 1) dx ⟨old, Nat.le_succ _, ⟨_, _, hx, rfl, rfl, rfl, rfl⟩, Nat.le_trans (Nat.le_trans (Nat.le_succ _) (Nat.le_succ _)) z, dne, hns⟩⟩
end
end ErrBadDeed
end PySem
namespace L2
open PySem PySem.Spec PyProof.Rows
theorem relO_low_BadDeed {v : V} {v' : Value} (r : RelV v v') (f : Str) : RelO (List.lookup f [(("index" : Str), v)]) (if f = "index" then some v' else none) := by
  by_cases hw : f = "index"
  · subst hw
    rw [if_pos rfl]
    have q : List.lookup ("index" : Str) [(("index" : Str), v)] = some v := by simp [List.lookup]
    rw [q]
    exact r
  · rw [if_neg hw]
    have qw : (f == ("index" : Str)) = false := by simpa using hw
    have q2 : List.lookup f [(("index" : Str), v)] = none := by simp [List.lookup, qw]
    rw [q2]
    trivial
section
variable {X : Cx} {C fI : Addr}
/-- Low(e) -/
def tMkLow_BadDeed (C : Addr) (ta : TA) : St → Hp → XK → Prop := fun σ H Q => ta σ H fun vs H1 => ∃ v, vs = [v] ∧ ∀ d, H1 d = none → Q (.ref C) (some d) (upd H1 d (.xd [(("index" : Str), v)]))
theorem pmk_low_BadDeed {a : Expr} {ta : TA} {p pos : Pos} {k : Nat} (T : PySem.ErrBadDeed.LowTxt X.K X.mg C fI) (hr : Room k X.A) (ha : PA X [a] ta) (hg : Gl X "BadDeed" := by rfl)
    (he : starEach (a :: []) X.env = (false, eval a X.env) :: starEach [] X.env := by rfl) (hpl : (backTo pos (starEach [] X.env)).any (·.1) = false := by rfl) :
    PMk X (.Call (.Name "BadDeed" p) [a] [] pos) (tMkLow_BadDeed C ta) := by
  intro pins s σ H Q I h
  refine wpAny_Call_Name_kw (ld_glob I hg T.gC ?_)
  refine PySem.W.callWith_K (h₀ := X.base) I.ok.mod.kin T.kC (thn (ha.run pos pins s σ H _ I h) fun us s1 hh => ?_) he hpl
  obtain ⟨vs, H1, I1, r1, v, ev, q1⟩ := hh
  subst ev
  refine ⟨I1.kIn, ?_⟩
  cases r1 with
  | cons rv rn =>
    rename_i v' us'
    cases rn
    show wpAny _ _ (call (.ref C) [v']) _ _ _
    have hlim := I1.nolimit
    obtain ⟨hp, g, dr, tk, os⟩ := s1
    refine wpAny_call (PySem.ErrBadDeed.low_made T I1.kIn hlim (by have := hr.dp; omega) fun h' tk' e d M => ?_)
    show MkP X pins σ Q (.ref e) ⟨h', g, dr, tk', os⟩
    obtain ⟨oe, fv, hoe, hc, hd, hdat, h1⟩ := M.obj
    have hns := M.ns
    obtain ⟨G', g1, g2⟩ := restrict h' fun b => decide (b ≠ e)
    have gk : ∀ b, b ≠ e → G'.get? b = h'.get? b := fun b hb => g1 b (decide_eq_true hb)
    have ge : G'.get? e = none := g2 e (by simp)
    have old : ∀ b o, hp.get? b = some o → G'.get? b = some o := fun b o q => (gk b (Nat.ne_of_lt (Nat.lt_of_lt_of_le (Heap.lt_size q) M.new))).trans (M.keep b o q)
    have ob : ObjOk X.prog X.w (upd H1 d (.xd [(("index" : Str), v)])) G' d (.xd [(("index" : Str), v)]) :=
      ⟨_, hns.at (fun o q => (gk d M.dne).trans q), fun f => relO_low_BadDeed rv f⟩
    have J : Inv X pins σ (upd H1 d (.xd [(("index" : Str), v)])) ⟨G', g, dr, tk', os⟩ := I1.laid (t' := tk') old M.dbig ob
    refine ⟨e, oe, fv, ⟨G', g, dr, tk', os⟩, _, .ref C, some d, rfl, J, fun b o q => ?_, ge, hoe, ⟨hc, hd⟩, hdat, h1, ?_, rfl, I1.bare, raises_own T.exC T.tyC, q1 d (I1.hok.fresh M.dbig)⟩
    · by_cases hb : b = e
      · have q' : G'.get? b = some o := q
        rw [hb, ge] at q'; cases q'
      · exact (gk b hb).symm.trans q
    · rw [upd_ne (Ne.symm M.dne)]
      exact I1.hok.fresh M.new
/-- raise Low(e) -/
def tRaiseLow_BadDeed (C : Addr) (W : WX) (ta : TA) : TS := fun _ σ H => tMkLow_BadDeed C ta σ H fun cls d H' => W cls d σ H'
theorem ps_raiseLow_BadDeed {a : Expr} {ta : TA} {W : WX} {p pos pos2 : Pos} {k : Nat} (hc : X.calm = true) (T : PySem.ErrBadDeed.LowTxt X.K X.mg C fI) (hr : Room k X.A) (tk : Takes X W) (ha : PA X [a] ta) (hg : Gl X "BadDeed" := by rfl)
    (he : starEach (a :: []) X.env = (false, eval a X.env) :: starEach [] X.env := by rfl) (hpl : (backTo pos (starEach [] X.env)).any (·.1) = false := by rfl) :
    PS X (.Raise (some (.Call (.Name "BadDeed" p) [a] [] pos)) none pos2) (tRaiseLow_BadDeed C W ta) := ps_raise hc tk (pmk_low_BadDeed T hr ha hg he hpl)
/-- C(f = e).f -/
theorem pe_namk_BadDeed {e : Expr} {te : TE} {p kp pos pos2 : Pos} {k : Nat} (T : PySem.ErrBadDeed.LowTxt X.K X.mg C fI) (hr : Room k X.A) (he : PE X e te) (hg : Gl X "BadDeed" := by rfl)
    (hall : (backToKw pos (keywordEach [⟨some "index", e, kp⟩] X.env)).all (·.1.isSome) = true := by rfl) (hks : (backToKw pos (keywordEach [⟨some "index", e, kp⟩] X.env)).filterMap (·.1) = [("index" : Str)] := by rfl)
    (hpl : ((backTo pos (starEach [] X.env)).any (·.1) || (backToKw pos (keywordEach [⟨some "index", e, kp⟩] X.env)).any (·.1.isNone)) = false := by rfl)
    (hb : attributeBase (.Call (.Name "BadDeed" p) [] [⟨some "index", e, kp⟩] pos) "index" X.env (eval (.Call (.Name "BadDeed" p) [] [⟨some "index", e, kp⟩] pos) X.env) = eval (.Call (.Name "BadDeed" p) [] [⟨some "index", e, kp⟩] pos) X.env := by rfl) :
    PE X (.Attribute (.Call (.Name "BadDeed" p) [] [⟨some "index", e, kp⟩] pos) "index" pos2) te := by
  refine ⟨fun pins s σ H Q I h => ?_⟩
  refine attr_of hb ?_
  refine wpAny_Call_Name_kw (ld_glob I hg T.gC ?_)
  refine PySem.W.callWith_KW0 (h₀ := X.base) I.ok.mod.kin T.kC hall (thn ((pk_one he).run pos pins s σ H (fun zs H2 => match zs with | [v] => Q v H2 | _ => False) I h) fun us s1 hh => ?_) hpl
  obtain ⟨vs, H1, I1, r1, q1⟩ := hh
  refine ⟨I1.kIn, ?_⟩
  rw [hks]
  match vs, us, r1, q1 with
  | [v], [v'], .cons rv .nil, q1 =>
    have hlim := I1.nolimit
    obtain ⟨hp, g, dr, tk, os⟩ := s1
    refine wpAny_call (PySem.ErrBadDeed.low_madeK T I1.kIn hlim (by have := hr.dp; omega) fun h' tk' e d M => ?_)
    show wpAny _ _ (getAttr (.ref e) "index" true) _ _ ⟨h', g, dr, tk', os⟩
    obtain ⟨oe, fv, hoe, hc, hd, hdat, h1⟩ := M.obj
    obtain ⟨od, hod, hl⟩ := lookIn_ns M.ns
    have J : PySem.W.InstAt h' e oe C (some od) := ⟨hoe, hc, by unfold PySem.W.notCls; rw [hdat] <;> rfl, by rw [hd]; exact hod⟩
    have I2 : Inv X pins σ H1 ⟨h', g, dr, tk', os⟩ := I1.kept (t' := tk') M.keep
    exact HandSPX.exc_get I2.kIn J T.ga T.gg T.exC (PySem.W.findObj_own T.hdC T.noN rfl (by rw [hl, if_pos rfl])) (handed_of rv) ⟨v, H1, I2.tok _, rv, q1⟩
end
end L2
namespace PySem
namespace ErrPromised
open PySem.W PySem.Calls PyProof.Rows PySem.HandSPX
def iA (p1 p2 : Pos) : Arguments := { posonlyargs := [], args := [{ arg := "self", annotation := none, pos := p1 }, { arg := "key", annotation := none, pos := p2 }], vararg := none, kwonlyargs := [], kw_defaults := [], kwarg := none, defaults := [] }
def iB (q1 q2 q3 q4 : Pos) : List Stmt := [.Assign [.Attribute (.Name "self" q1) "key" q2] (.Name "key" q3) q4]
def iS : Scope := { kind := .function, names := [(PySem.Str.ofString "self", .local), (PySem.Str.ofString "key", .local)], isGenerator := false, isCoroutine := false, more := [] }
/-- what the written part says of Low, at C, and of its __init__, at fI -/
structure LowTxt (K : Frag) (mg : Str → Option Value) (C fI : Addr) : Prop where
  gC : mg "Promised" = some (.ref C)
  cls : ∃ nm q N bs bm sn sub ab col dd k0 k1 k2 k3 k5, K.lookup C = some (excClassObj nm q C N bs bm true sn sub ab col dd k0 k1 k2 k3 k5 "ValueError.__new__") ∧ refsVE bm = true
  sa : findIn K (.ref C) "__setattr__" = some (some (.builtin "object.__setattr__"))
  ga : findIn K (.ref C) "__getattribute__" = some (some (.builtin "BaseException.__getattribute__"))
  gg : findIn K (.ref C) "__getattr__" = some none
  noN : findIn K (.ref C) "key" = some none
  iC : findIn K (.ref C) "__init__" = some (some (.ref fI))
  tC : typeIn K (.ref fI) = some (.type "function")
  kC : keepIn K (.ref C) = true
  exC : subIn K (.ref C) (.type "BaseException") = some true
  tyC : typeIn K (.ref C) = some (.type "type")
  hdC : hasDictIn K C = true
  te : exmOne K (.ref C) (.ref C) = some true
  fn : ∃ (oc : Value) (od : Option Addr) (doc pm : Value) (an : Option Addr) (cdv ct : Value) (osl : Array (Option Value)) (p1 p2 q1 q2 q3 q4 : Pos),
    K.lookup fI = some ⟨oc, od, .func (fnOf "__init__" "Promised.__init__" (iA p1 p2) (iB q1 q2 q3 q4) iS .none .none doc pm an cdv ct), osl⟩ ∧ codeIn K cdv "Promised.__init__" = true
theorem one_size (v : Value) : [v].length ≤ sizeLine := by
  rw [sizeLine_eq]
  exact (by decide : 1 ≤ 16777216)
theorem ldC {M : Model} {s : Shared} {name : Str} {scope : Scope} {L a : Addr} {cd : Value} {m : Str → Option Value} {x : Str} {pos : Pos} {v : Value} {Q : Value → Shared → Prop} {A : Around} {E : Value → Shared → Prop} (hn : s.heap.Ns L m) (hv : m x = some v) (h : Q v s)
    (hk : scope.kind = .function := by rfl) (hl : (envOfC name scope L a cd).kindOf x = some .local := by rfl) (hd : (x == ("__debug__" : Str)) = false := by decide) :
    wpAny M A (eval (.Name x pos) (envOfC name scope L a cd)) Q E s := wpAny_Name (wpAny_loadName_local hk hl hn hv h) hd
/-- what __init__ leaves of a fresh exception at x -/
structure InitEnd (h h' : Heap) (x C dx t1 : Addr) (v : Value) : Prop where
  keep : ∀ b o, b ≠ x → h.get? b = some o → h'.get? b = some o
  obj : h'.get? x = some { cls := .ref C, dict := some dx, data := .fields #[.ref t1, .none, .none, .none, .bool false, .none] }
  dbig : h.objs.size ≤ dx
  dne : dx ≠ x
  ns : h'.Ns1 dx (fun y => if y = "key" then some v else none)
/-- a made Low -/
structure OwnMade (h h' : Heap) (e C d : Addr) (v : Value) : Prop where
  keep : ∀ b o, h.get? b = some o → h'.get? b = some o
  new : h.objs.size ≤ e
  obj : ∃ oe vs, h'.get? e = some oe ∧ oe.cls = .ref C ∧ oe.dict = some d ∧ oe.data = .fields vs ∧ vs[1]? = some .none
  dbig : h.objs.size ≤ d
  dne : d ≠ e
  ns : h'.Ns1 d (fun y => if y = "key" then some v else none)
section
variable {prog : Program} {w : World} {A : Around} {E : Value → Shared → Prop} {R : Result → Shared → Prop} {s : Shared} {K : Frag} {mg : Str → Option Value} {C fI : Addr}
theorem low_init (T : LowTxt K mg C fI) {x t0 : Addr} {v : Value} (X : K.In s.heap) (hlim : s.heap.NoLimit) (hx : s.heap.get? x = some (excO C t0)) (hnx : K.lookup x = none) (hroom : A.depth < recursionLimit)
    (hq : ∀ h' tk dx, InitEnd s.heap h' x C dx t0 v → R (.ok (.ret .none)) { s with heap := h', toks := tk }) :
    codeAny (model prog w) A (.call (.ref fI) ⟨[.ref x, v], []⟩) R s := by
  obtain ⟨oc, od, doc, pm, an, cdv, ct, osl, p1, p2, q1, q2, q3, q4, ho, hcd⟩ := T.fn
  obtain ⟨nm, q, N, bs, bm, sn, sub, ab, col, dd, k0, k1, k2, k3, k5, hC, hbm⟩ := T.cls
  have hcl : clsIn K C = some { name := nm, bases := bs, mro := .ref C :: bm, ns := N, qualname := q, hasDict := true, slotNames := sn, subclasses := sub, abstract := ab, collection := col, hasDel := false } := by unfold clsIn; rw [hC] <;> rfl
  refine Att.call_fn (binds := [("self", .ref x), ("key", v)]) X hlim ho hcd hroom (BindsTo.of_eq (by first | rfl | with_unfolding_all rfl)) (by first | rfl | decide | with_unfolding_all rfl) (fun s₁ IC => ?_) rfl rfl rfl
  obtain ⟨h₁, tk₁, rfl⟩ := IC.toInCall.same
  have k : ∀ b o, s.heap.get? b = some o → h₁.get? b = some o := IC.toInCall.keep
  have hn := IC.toInCall.ns
  have hxL : s.heap.objs.size ≠ x := Nat.ne_of_gt (Heap.lt_size hx)
  have X₁ : K.In h₁ := X.keeps k
  have hx₁ := k _ _ hx
  -- self.by = by
  show wpAny _ _ (execs _ _) _ _ _
  refine wpAny_execs_cons (plainObj_wpAny_Assign_Attribute ?_)
  refine ldC (v := v) hn (by first | rfl | with_unfolding_all rfl | kernel_rfl) (ldC (v := .ref x) hn (by first | rfl | with_unfolding_all rfl | kernel_rfl) ?_)
  refine set_plain X₁ (ox := excO C t0) (od := none) ⟨hx₁, rfl, rfl, trivial⟩ T.sa ?_
  refine exc_osa X₁ hx₁ hcl (show refsVE (.ref C :: bm) = true from hbm) rfl T.noN (fun h₃ tk₃ dx k₃ dn dne hx₃ hn₃ => ?_)
  show wpAny _ _ (execs _ _) _ _ _
  have z : s.heap.objs.size < h₁.objs.size := hn.lt
  exact wpAny_execs_nil (hq h₃ tk₃ dx ⟨fun b o hb e => k₃ b o hb (k b o e), hx₃, Nat.le_of_lt (Nat.lt_of_lt_of_le z dn), dne, hn₃⟩)
theorem low_made (T : LowTxt K mg C fI) {v : Value} (X : K.In s.heap) (hlim : s.heap.NoLimit) (hroom : A.depth + 1 < recursionLimit)
    (hq : ∀ h' tk e d, OwnMade s.heap h' e C d v → R (.ok (.ret (.ref e))) { s with heap := h', toks := tk }) :
    codeAny (model prog w) A (.call (.ref C) ⟨[v], []⟩) R s := by
  obtain ⟨nm, q, N, bs, bm, sn, sub, ab, col, dd, k0, k1, k2, k3, k5, hC, hbm⟩ := T.cls
  obtain ⟨hp, g, dr, tk, os⟩ := s
  have k : ∀ b o, hp.get? b = some o → ((hp.push (kdv_tup [v])).push (excO C hp.objs.size)).get? b = some o := fun b o e => Heap.get?_push_of_some _ (Heap.get?_push_of_some _ e)
  have hget : ((hp.push (kdv_tup [v])).push (excO C hp.objs.size)).get? (hp.objs.size + 1) = some (excO C hp.objs.size) := by heap_get
  have hnx : K.lookup (hp.objs.size + 1) = none := by
    cases e : K.lookup (hp.objs.size + 1) with
    | none => rfl
    | some o =>
      have z : hp.get? (hp.objs.size + 1) = some o := X _ _ e
      exact absurd (Nat.lt_of_succ_lt (Heap.lt_size z)) (Nat.lt_irrefl _)
  refine call_own F.excBase_ValueError (fun X => refsVE_contains X bm hbm) (X _ _ hC) (looks_findIn X T.iC) (fun self => bind_fn X self T.tC) (one_size v) ?_
  refine low_init (s := ⟨(hp.push (kdv_tup [v])).push (excO C hp.objs.size), g, dr, tk, os⟩) T (X.keeps k) (hlim.keeps k) hget hnx ?_ fun h' tk' dx ⟨k', hx, dn, dne, hns⟩ => ?_
  · show A.depth + 1 < recursionLimit
    exact hroom
  · have old : ∀ b o, hp.get? b = some o → h'.get? b = some o := fun b o e => k' b o (Nat.ne_of_lt (Nat.lt_succ_of_lt (Heap.lt_size e))) (k b o e)
    have z : hp.objs.size + 1 + 1 ≤ dx := by
      first
        | (simpa only [Heap.size_push] using dn)
        | exact dn
        | (have q := dn; rw [Heap.size_push, Heap.size_push] at q; exact q)
    exact ⟨rfl, hq h' tk' (hp.objs.size + 1) dx ⟨old, Nat.le_succ _, ⟨_, _, hx, rfl, rfl, rfl, rfl⟩, Nat.le_trans (Nat.le_trans (Nat.le_succ _) (Nat.le_succ _)) z, dne, hns⟩⟩
theorem low_initK (T : LowTxt K mg C fI) {x t0 : Addr} {v : Value} (X : K.In s.heap) (hlim : s.heap.NoLimit) (hx : s.heap.get? x = some (excO C t0)) (hnx : K.lookup x = none) (hroom : A.depth < recursionLimit)
    (hq : ∀ h' tk dx, InitEnd s.heap h' x C dx t0 v → R (.ok (.ret .none)) { s with heap := h', toks := tk }) :
    codeAny (model prog w) A (.call (.ref fI) ⟨[.ref x], [("key", v)]⟩) R s := by
  obtain ⟨oc, od, doc, pm, an, cdv, ct, osl, p1, p2, q1, q2, q3, q4, ho, hcd⟩ := T.fn
  obtain ⟨nm, q, N, bs, bm, sn, sub, ab, col, dd, k0, k1, k2, k3, k5, hC, hbm⟩ := T.cls
  have hcl : clsIn K C = some { name := nm, bases := bs, mro := .ref C :: bm, ns := N, qualname := q, hasDict := true, slotNames := sn, subclasses := sub, abstract := ab, collection := col, hasDel := false } := by unfold clsIn; rw [hC] <;> rfl
  refine Att.call_fn (binds := [("self", .ref x), ("key", v)]) X hlim ho hcd hroom (BindsTo.of_eq (by first | rfl | with_unfolding_all rfl)) (by first | rfl | decide | with_unfolding_all rfl) (fun s₁ IC => ?_) rfl rfl rfl
  obtain ⟨h₁, tk₁, rfl⟩ := IC.toInCall.same
  have k : ∀ b o, s.heap.get? b = some o → h₁.get? b = some o := IC.toInCall.keep
  have hn := IC.toInCall.ns
  have hxL : s.heap.objs.size ≠ x := Nat.ne_of_gt (Heap.lt_size hx)
  have X₁ : K.In h₁ := X.keeps k
  have hx₁ := k _ _ hx
  -- self.by = by
  show wpAny _ _ (execs _ _) _ _ _
  refine wpAny_execs_cons (plainObj_wpAny_Assign_Attribute ?_)
  refine ldC (v := v) hn (by first | rfl | with_unfolding_all rfl | kernel_rfl) (ldC (v := .ref x) hn (by first | rfl | with_unfolding_all rfl | kernel_rfl) ?_)
  refine set_plain X₁ (ox := excO C t0) (od := none) ⟨hx₁, rfl, rfl, trivial⟩ T.sa ?_
  refine exc_osa X₁ hx₁ hcl (show refsVE (.ref C :: bm) = true from hbm) rfl T.noN (fun h₃ tk₃ dx k₃ dn dne hx₃ hn₃ => ?_)
  show wpAny _ _ (execs _ _) _ _ _
  have z : s.heap.objs.size < h₁.objs.size := hn.lt
  exact wpAny_execs_nil (hq h₃ tk₃ dx ⟨fun b o hb e => k₃ b o hb (k b o e), hx₃, Nat.le_of_lt (Nat.lt_of_lt_of_le z dn), dne, hn₃⟩)
theorem low_madeK (T : LowTxt K mg C fI) {v : Value} (X : K.In s.heap) (hlim : s.heap.NoLimit) (hroom : A.depth + 1 < recursionLimit)
    (hq : ∀ h' tk e d, OwnMade s.heap h' e C d v → R (.ok (.ret (.ref e))) { s with heap := h', toks := tk }) :
    codeAny (model prog w) A (.call (.ref C) ⟨[], [("key", v)]⟩) R s := by
  obtain ⟨nm, q, N, bs, bm, sn, sub, ab, col, dd, k0, k1, k2, k3, k5, hC, hbm⟩ := T.cls
  obtain ⟨hp, g, dr, tk, os⟩ := s
  have k : ∀ b o, hp.get? b = some o → ((hp.push (kdv_tup [])).push (excO C hp.objs.size)).get? b = some o := fun b o e => Heap.get?_push_of_some _ (Heap.get?_push_of_some _ e)
  have hget : ((hp.push (kdv_tup [])).push (excO C hp.objs.size)).get? (hp.objs.size + 1) = some (excO C hp.objs.size) := by heap_get
  have hnx : K.lookup (hp.objs.size + 1) = none := by
    cases e : K.lookup (hp.objs.size + 1) with
    | none => rfl
    | some o =>
      have z : hp.get? (hp.objs.size + 1) = some o := X _ _ e
      exact absurd (Nat.lt_of_succ_lt (Heap.lt_size z)) (Nat.lt_irrefl _)
  refine call_kw F.excBase_ValueError (fun X => refsVE_contains X bm hbm) (X _ _ hC) (looks_findIn X T.iC) (fun self => bind_fn X self T.tC) ?_
  refine low_initK (s := ⟨(hp.push (kdv_tup [])).push (excO C hp.objs.size), g, dr, tk, os⟩) T (X.keeps k) (hlim.keeps k) hget hnx ?_ fun h' tk' dx ⟨k', hx, dn, dne, hns⟩ => ?_
  · show A.depth + 1 < recursionLimit
    exact hroom
  · have old : ∀ b o, hp.get? b = some o → h'.get? b = some o := fun b o e => k' b o (Nat.ne_of_lt (Nat.lt_succ_of_lt (Heap.lt_size e))) (k b o e)
    have z : hp.objs.size + 1 + 1 ≤ dx := by
      first
        | (simpa only [Heap.size_push] using dn)
        | exact dn
        | (have q := dn; rw [Heap.size_push, Heap.size_push] at q; exact q)
    exact ⟨rfl, hq h' tk' (hp.objs.size + 1) dx ⟨old, Nat.le_succ _, ⟨_, _, hx, rfl, rfl, rfl, rfl⟩, Nat.le_trans (Nat.le_trans (Nat.le_succ _) (Nat.le_succ _)) z, dne, hns⟩⟩
end
end ErrPromised
end PySem
namespace L2
open PySem PySem.Spec PyProof.Rows
theorem relO_low_Promised {v : V} {v' : Value} (r : RelV v v') (f : Str) : RelO (List.lookup f [(("key" : Str), v)]) (if f = "key" then some v' else none) := by
  by_cases hw : f = "key"
  · subst hw
    rw [if_pos rfl]
    have q : List.lookup ("key" : Str) [(("key" : Str), v)] = some v := by simp [List.lookup]
    rw [q]
    exact r
  · rw [if_neg hw]
    have qw : (f == ("key" : Str)) = false := by simpa using hw
    have q2 : List.lookup f [(("key" : Str), v)] = none := by simp [List.lookup, qw]
    rw [q2]
    trivial
section
variable {X : Cx} {C fI : Addr}
/-- Low(e) -/
def tMkLow_Promised (C : Addr) (ta : TA) : St → Hp → XK → Prop := fun σ H Q => ta σ H fun vs H1 => ∃ v, vs = [v] ∧ ∀ d, H1 d = none → Q (.ref C) (some d) (upd H1 d (.xd [(("key" : Str), v)]))
theorem pmk_low_Promised {a : Expr} {ta : TA} {p pos : Pos} {k : Nat} (T : PySem.ErrPromised.LowTxt X.K X.mg C fI) (hr : Room k X.A) (ha : PA X [a] ta) (hg : Gl X "Promised" := by rfl)
    (he : starEach (a :: []) X.env = (false, eval a X.env) :: starEach [] X.env := by rfl) (hpl : (backTo pos (starEach [] X.env)).any (·.1) = false := by rfl) :
    PMk X (.Call (.Name "Promised" p) [a] [] pos) (tMkLow_Promised C ta) := by
  intro pins s σ H Q I h
  refine wpAny_Call_Name_kw (ld_glob I hg T.gC ?_)
  refine PySem.W.callWith_K (h₀ := X.base) I.ok.mod.kin T.kC (thn (ha.run pos pins s σ H _ I h) fun us s1 hh => ?_) he hpl
  obtain ⟨vs, H1, I1, r1, v, ev, q1⟩ := hh
  subst ev
  refine ⟨I1.kIn, ?_⟩
  cases r1 with
  | cons rv rn =>
    rename_i v' us'
    cases rn
    show wpAny _ _ (call (.ref C) [v']) _ _ _
    have hlim := I1.nolimit
    obtain ⟨hp, g, dr, tk, os⟩ := s1
    refine wpAny_call (PySem.ErrPromised.low_made T I1.kIn hlim (by have := hr.dp; omega) fun h' tk' e d M => ?_)
    show MkP X pins σ Q (.ref e) ⟨h', g, dr, tk', os⟩
    obtain ⟨oe, fv, hoe, hc, hd, hdat, h1⟩ := M.obj
    have hns := M.ns
    obtain ⟨G', g1, g2⟩ := restrict h' fun b => decide (b ≠ e)
    have gk : ∀ b, b ≠ e → G'.get? b = h'.get? b := fun b hb => g1 b (decide_eq_true hb)
    have ge : G'.get? e = none := g2 e (by simp)
    have old : ∀ b o, hp.get? b = some o → G'.get? b = some o := fun b o q => (gk b (Nat.ne_of_lt (Nat.lt_of_lt_of_le (Heap.lt_size q) M.new))).trans (M.keep b o q)
    have ob : ObjOk X.prog X.w (upd H1 d (.xd [(("key" : Str), v)])) G' d (.xd [(("key" : Str), v)]) :=
      ⟨_, hns.at (fun o q => (gk d M.dne).trans q), fun f => relO_low_Promised rv f⟩
    have J : Inv X pins σ (upd H1 d (.xd [(("key" : Str), v)])) ⟨G', g, dr, tk', os⟩ := I1.laid (t' := tk') old M.dbig ob
    refine ⟨e, oe, fv, ⟨G', g, dr, tk', os⟩, _, .ref C, some d, rfl, J, fun b o q => ?_, ge, hoe, ⟨hc, hd⟩, hdat, h1, ?_, rfl, I1.bare, raises_own T.exC T.tyC, q1 d (I1.hok.fresh M.dbig)⟩
    · by_cases hb : b = e
      · have q' : G'.get? b = some o := q
        rw [hb, ge] at q'; cases q'
      · exact (gk b hb).symm.trans q
    · rw [upd_ne (Ne.symm M.dne)]
      exact I1.hok.fresh M.new
/-- raise Low(e) -/
def tRaiseLow_Promised (C : Addr) (W : WX) (ta : TA) : TS := fun _ σ H => tMkLow_Promised C ta σ H fun cls d H' => W cls d σ H'
theorem ps_raiseLow_Promised {a : Expr} {ta : TA} {W : WX} {p pos pos2 : Pos} {k : Nat} (hc : X.calm = true) (T : PySem.ErrPromised.LowTxt X.K X.mg C fI) (hr : Room k X.A) (tk : Takes X W) (ha : PA X [a] ta) (hg : Gl X "Promised" := by rfl)
    (he : starEach (a :: []) X.env = (false, eval a X.env) :: starEach [] X.env := by rfl) (hpl : (backTo pos (starEach [] X.env)).any (·.1) = false := by rfl) :
    PS X (.Raise (some (.Call (.Name "Promised" p) [a] [] pos)) none pos2) (tRaiseLow_Promised C W ta) := ps_raise hc tk (pmk_low_Promised T hr ha hg he hpl)
/-- C(f = e).f -/
theorem pe_namk_Promised {e : Expr} {te : TE} {p kp pos pos2 : Pos} {k : Nat} (T : PySem.ErrPromised.LowTxt X.K X.mg C fI) (hr : Room k X.A) (he : PE X e te) (hg : Gl X "Promised" := by rfl)
    (hall : (backToKw pos (keywordEach [⟨some "key", e, kp⟩] X.env)).all (·.1.isSome) = true := by rfl) (hks : (backToKw pos (keywordEach [⟨some "key", e, kp⟩] X.env)).filterMap (·.1) = [("key" : Str)] := by rfl)
    (hpl : ((backTo pos (starEach [] X.env)).any (·.1) || (backToKw pos (keywordEach [⟨some "key", e, kp⟩] X.env)).any (·.1.isNone)) = false := by rfl)
    (hb : attributeBase (.Call (.Name "Promised" p) [] [⟨some "key", e, kp⟩] pos) "key" X.env (eval (.Call (.Name "Promised" p) [] [⟨some "key", e, kp⟩] pos) X.env) = eval (.Call (.Name "Promised" p) [] [⟨some "key", e, kp⟩] pos) X.env := by rfl) :
    PE X (.Attribute (.Call (.Name "Promised" p) [] [⟨some "key", e, kp⟩] pos) "key" pos2) te := by
  refine ⟨fun pins s σ H Q I h => ?_⟩
  refine attr_of hb ?_
  refine wpAny_Call_Name_kw (ld_glob I hg T.gC ?_)
  refine PySem.W.callWith_KW0 (h₀ := X.base) I.ok.mod.kin T.kC hall (thn ((pk_one he).run pos pins s σ H (fun zs H2 => match zs with | [v] => Q v H2 | _ => False) I h) fun us s1 hh => ?_) hpl
  obtain ⟨vs, H1, I1, r1, q1⟩ := hh
  refine ⟨I1.kIn, ?_⟩
  rw [hks]
  match vs, us, r1, q1 with
  | [v], [v'], .cons rv .nil, q1 =>
    have hlim := I1.nolimit
    obtain ⟨hp, g, dr, tk, os⟩ := s1
    refine wpAny_call (PySem.ErrPromised.low_madeK T I1.kIn hlim (by have := hr.dp; omega) fun h' tk' e d M => ?_)
    show wpAny _ _ (getAttr (.ref e) "key" true) _ _ ⟨h', g, dr, tk', os⟩
    obtain ⟨oe, fv, hoe, hc, hd, hdat, h1⟩ := M.obj
    obtain ⟨od, hod, hl⟩ := lookIn_ns M.ns
    have J : PySem.W.InstAt h' e oe C (some od) := ⟨hoe, hc, by unfold PySem.W.notCls; rw [hdat] <;> rfl, by rw [hd]; exact hod⟩
    have I2 : Inv X pins σ H1 ⟨h', g, dr, tk', os⟩ := I1.kept (t' := tk') M.keep
    exact HandSPX.exc_get I2.kIn J T.ga T.gg T.exC (PySem.W.findObj_own T.hdC T.noN rfl (by rw [hl, if_pos rfl])) (handed_of rv) ⟨v, H1, I2.tok _, rv, q1⟩
end
end L2
namespace PySem
namespace ErrFixed
open PySem.W PySem.Calls PyProof.Rows PySem.HandSPX
def iA (p1 p2 : Pos) : Arguments := { posonlyargs := [], args := [{ arg := "self", annotation := none, pos := p1 }, { arg := "key", annotation := none, pos := p2 }], vararg := none, kwonlyargs := [], kw_defaults := [], kwarg := none, defaults := [] }
def iB (q1 q2 q3 q4 : Pos) : List Stmt := [.Assign [.Attribute (.Name "self" q1) "key" q2] (.Name "key" q3) q4]
def iS : Scope := { kind := .function, names := [(PySem.Str.ofString "self", .local), (PySem.Str.ofString "key", .local)], isGenerator := false, isCoroutine := false, more := [] }
/-- what the written part says of Low, at C, and of its __init__, at fI -/
structure LowTxt (K : Frag) (mg : Str → Option Value) (C fI : Addr) : Prop where
  gC : mg "Fixed" = some (.ref C)
  cls : ∃ nm q N bs bm sn sub ab col dd k0 k1 k2 k3 k5, K.lookup C = some (excClassObj nm q C N bs bm true sn sub ab col dd k0 k1 k2 k3 k5 "ValueError.__new__") ∧ refsVE bm = true
  sa : findIn K (.ref C) "__setattr__" = some (some (.builtin "object.__setattr__"))
  ga : findIn K (.ref C) "__getattribute__" = some (some (.builtin "BaseException.__getattribute__"))
  gg : findIn K (.ref C) "__getattr__" = some none
  noN : findIn K (.ref C) "key" = some none
  iC : findIn K (.ref C) "__init__" = some (some (.ref fI))
  tC : typeIn K (.ref fI) = some (.type "function")
  kC : keepIn K (.ref C) = true
  exC : subIn K (.ref C) (.type "BaseException") = some true
  tyC : typeIn K (.ref C) = some (.type "type")
  hdC : hasDictIn K C = true
  te : exmOne K (.ref C) (.ref C) = some true
  fn : ∃ (oc : Value) (od : Option Addr) (doc pm : Value) (an : Option Addr) (cdv ct : Value) (osl : Array (Option Value)) (p1 p2 q1 q2 q3 q4 : Pos),
    K.lookup fI = some ⟨oc, od, .func (fnOf "__init__" "Fixed.__init__" (iA p1 p2) (iB q1 q2 q3 q4) iS .none .none doc pm an cdv ct), osl⟩ ∧ codeIn K cdv "Fixed.__init__" = true
theorem one_size (v : Value) : [v].length ≤ sizeLine := by
  rw [sizeLine_eq]
  exact (by decide : 1 ≤ 16777216)
theorem ldC {M : Model} {s : Shared} {name : Str} {scope : Scope} {L a : Addr} {cd : Value} {m : Str → Option Value} {x : Str} {pos : Pos} {v : Value} {Q : Value → Shared → Prop} {A : Around} {E : Value → Shared → Prop} (hn : s.heap.Ns L m) (hv : m x = some v) (h : Q v s)
    (hk : scope.kind = .function := by rfl) (hl : (envOfC name scope L a cd).kindOf x = some .local := by rfl) (hd : (x == ("__debug__" : Str)) = false := by decide) :
    wpAny M A (eval (.Name x pos) (envOfC name scope L a cd)) Q E s := wpAny_Name (wpAny_loadName_local hk hl hn hv h) hd
/-- what __init__ leaves of a fresh exception at x -/
structure InitEnd (h h' : Heap) (x C dx t1 : Addr) (v : Value) : Prop where
  keep : ∀ b o, b ≠ x → h.get? b = some o → h'.get? b = some o
  obj : h'.get? x = some { cls := .ref C, dict := some dx, data := .fields #[.ref t1, .none, .none, .none, .bool false, .none] }
  dbig : h.objs.size ≤ dx
  dne : dx ≠ x
  ns : h'.Ns1 dx (fun y => if y = "key" then some v else none)
/-- a made Low -/
structure OwnMade (h h' : Heap) (e C d : Addr) (v : Value) : Prop where
  keep : ∀ b o, h.get? b = some o → h'.get? b = some o
  new : h.objs.size ≤ e
  obj : ∃ oe vs, h'.get? e = some oe ∧ oe.cls = .ref C ∧ oe.dict = some d ∧ oe.data = .fields vs ∧ vs[1]? = some .none
  dbig : h.objs.size ≤ d
  dne : d ≠ e
  ns : h'.Ns1 d (fun y => if y = "key" then some v else none)
section
variable {prog : Program} {w : World} {A : Around} {E : Value → Shared → Prop} {R : Result → Shared → Prop} {s : Shared} {K : Frag} {mg : Str → Option Value} {C fI : Addr}
theorem low_init (T : LowTxt K mg C fI) {x t0 : Addr} {v : Value} (X : K.In s.heap) (hlim : s.heap.NoLimit) (hx : s.heap.get? x = some (excO C t0)) (hnx : K.lookup x = none) (hroom : A.depth < recursionLimit)
    (hq : ∀ h' tk dx, InitEnd s.heap h' x C dx t0 v → R (.ok (.ret .none)) { s with heap := h', toks := tk }) :
    codeAny (model prog w) A (.call (.ref fI) ⟨[.ref x, v], []⟩) R s := by
  obtain ⟨oc, od, doc, pm, an, cdv, ct, osl, p1, p2, q1, q2, q3, q4, ho, hcd⟩ := T.fn
  obtain ⟨nm, q, N, bs, bm, sn, sub, ab, col, dd, k0, k1, k2, k3, k5, hC, hbm⟩ := T.cls
  have hcl : clsIn K C = some { name := nm, bases := bs, mro := .ref C :: bm, ns := N, qualname := q, hasDict := true, slotNames := sn, subclasses := sub, abstract := ab, collection := col, hasDel := false } := by unfold clsIn; rw [hC] <;> rfl
  refine Att.call_fn (binds := [("self", .ref x), ("key", v)]) X hlim ho hcd hroom (BindsTo.of_eq (by first | rfl | with_unfolding_all rfl)) (by first | rfl | decide | with_unfolding_all rfl) (fun s₁ IC => ?_) rfl rfl rfl
  obtain ⟨h₁, tk₁, rfl⟩ := IC.toInCall.same
  have k : ∀ b o, s.heap.get? b = some o → h₁.get? b = some o := IC.toInCall.keep
  have hn := IC.toInCall.ns
  have hxL : s.heap.objs.size ≠ x := Nat.ne_of_gt (Heap.lt_size hx)
  have X₁ : K.In h₁ := X.keeps k
  have hx₁ := k _ _ hx
  -- self.by = by
  show wpAny _ _ (execs _ _) _ _ _
  refine wpAny_execs_cons (plainObj_wpAny_Assign_Attribute ?_)
  refine ldC (v := v) hn (by first | rfl | with_unfolding_all rfl | kernel_rfl) (ldC (v := .ref x) hn (by first | rfl | with_unfolding_all rfl | kernel_rfl) ?_)
  refine set_plain X₁ (ox := excO C t0) (od := none) ⟨hx₁, rfl, rfl, trivial⟩ T.sa ?_
  refine exc_osa X₁ hx₁ hcl (show refsVE (.ref C :: bm) = true from hbm) rfl T.noN (fun h₃ tk₃ dx k₃ dn dne hx₃ hn₃ => ?_)
  show wpAny _ _ (execs _ _) _ _ _
  have z : s.heap.objs.size < h₁.objs.size := hn.lt
  exact wpAny_execs_nil (hq h₃ tk₃ dx ⟨fun b o hb e => k₃ b o hb (k b o e), hx₃, Nat.le_of_lt (Nat.lt_of_lt_of_le z dn), dne, hn₃⟩)
theorem low_made (T : LowTxt K mg C fI) {v : Value} (X : K.In s.heap) (hlim : s.heap.NoLimit) (hroom : A.depth + 1 < recursionLimit)
    (hq : ∀ h' tk e d, OwnMade s.heap h' e C d v → R (.ok (.ret (.ref e))) { s with heap := h', toks := tk }) :
    codeAny (model prog w) A (.call (.ref C) ⟨[v], []⟩) R s := by
  obtain ⟨nm, q, N, bs, bm, sn, sub, ab, col, dd, k0, k1, k2, k3, k5, hC, hbm⟩ := T.cls
  obtain ⟨hp, g, dr, tk, os⟩ := s
  have k : ∀ b o, hp.get? b = some o → ((hp.push (kdv_tup [v])).push (excO C hp.objs.size)).get? b = some o := fun b o e => Heap.get?_push_of_some _ (Heap.get?_push_of_some _ e)
  have hget : ((hp.push (kdv_tup [v])).push (excO C hp.objs.size)).get? (hp.objs.size + 1) = some (excO C hp.objs.size) := by heap_get
  have hnx : K.lookup (hp.objs.size + 1) = none := by
    cases e : K.lookup (hp.objs.size + 1) with
    | none => rfl
    | some o =>
      have z : hp.get? (hp.objs.size + 1) = some o := X _ _ e
      exact absurd (Nat.lt_of_succ_lt (Heap.lt_size z)) (Nat.lt_irrefl _)
  refine call_own F.excBase_ValueError (fun X => refsVE_contains X bm hbm) (X _ _ hC) (looks_findIn X T.iC) (fun self => bind_fn X self T.tC) (one_size v) ?_
  refine low_init (s := ⟨(hp.push (kdv_tup [v])).push (excO C hp.objs.size), g, dr, tk, os⟩) T (X.keeps k) (hlim.keeps k) hget hnx ?_ fun h' tk' dx ⟨k', hx, dn, dne, hns⟩ => ?_
  · show A.depth + 1 < recursionLimit
    exact hroom
  · have old : ∀ b o, hp.get? b = some o → h'.get? b = some o := fun b o e => k' b o (Nat.ne_of_lt (Nat.lt_succ_of_lt (Heap.lt_size e))) (k b o e)
    have z : hp.objs.size + 1 + 1 ≤ dx := by
      first
        | (simpa only [Heap.size_push] using dn)
        | exact dn
        | (have q := dn; rw [Heap.size_push, Heap.size_push] at q; exact q)
    exact ⟨rfl, hq h' tk' (hp.objs.size + 1) dx ⟨old, Nat.le_succ _, ⟨_, _, hx, rfl, rfl, rfl, rfl⟩, Nat.le_trans (Nat.le_trans (Nat.le_succ _) (Nat.le_succ _)) z, dne, hns⟩⟩
theorem low_initK (T : LowTxt K mg C fI) {x t0 : Addr} {v : Value} (X : K.In s.heap) (hlim : s.heap.NoLimit) (hx : s.heap.get? x = some (excO C t0)) (hnx : K.lookup x = none) (hroom : A.depth < recursionLimit)
    (hq : ∀ h' tk dx, InitEnd s.heap h' x C dx t0 v → R (.ok (.ret .none)) { s with heap := h', toks := tk }) :
    codeAny (model prog w) A (.call (.ref fI) ⟨[.ref x], [("key", v)]⟩) R s := by
  obtain ⟨oc, od, doc, pm, an, cdv, ct, osl, p1, p2, q1, q2, q3, q4, ho, hcd⟩ := T.fn
  obtain ⟨nm, q, N, bs, bm, sn, sub, ab, col, dd, k0, k1, k2, k3, k5, hC, hbm⟩ := T.cls
  have hcl : clsIn K C = some { name := nm, bases := bs, mro := .ref C :: bm, ns := N, qualname := q, hasDict := true, slotNames := sn, subclasses := sub, abstract := ab, collection := col, hasDel := false } := by unfold clsIn; rw [hC] <;> rfl
  refine Att.call_fn (binds := [("self", .ref x), ("key", v)]) X hlim ho hcd hroom (BindsTo.of_eq (by first | rfl | with_unfolding_all rfl)) (by first | rfl | decide | with_unfolding_all rfl) (fun s₁ IC => ?_) rfl rfl rfl
  obtain ⟨h₁, tk₁, rfl⟩ := IC.toInCall.same
  have k : ∀ b o, s.heap.get? b = some o → h₁.get? b = some o := IC.toInCall.keep
  have hn := IC.toInCall.ns
  have hxL : s.heap.objs.size ≠ x := Nat.ne_of_gt (Heap.lt_size hx)
  have X₁ : K.In h₁ := X.keeps k
  have hx₁ := k _ _ hx
  -- self.by = by
  show wpAny _ _ (execs _ _) _ _ _
  refine wpAny_execs_cons (plainObj_wpAny_Assign_Attribute ?_)
  refine ldC (v := v) hn (by first | rfl | with_unfolding_all rfl | kernel_rfl) (ldC (v := .ref x) hn (by first | rfl | with_unfolding_all rfl | kernel_rfl) ?_)
  refine set_plain X₁ (ox := excO C t0) (od := none) ⟨hx₁, rfl, rfl, trivial⟩ T.sa ?_
  refine exc_osa X₁ hx₁ hcl (show refsVE (.ref C :: bm) = true from hbm) rfl T.noN (fun h₃ tk₃ dx k₃ dn dne hx₃ hn₃ => ?_)
  show wpAny _ _ (execs _ _) _ _ _
  have z : s.heap.objs.size < h₁.objs.size := hn.lt
  exact wpAny_execs_nil (hq h₃ tk₃ dx ⟨fun b o hb e => k₃ b o hb (k b o e), hx₃, Nat.le_of_lt (Nat.lt_of_lt_of_le z dn), dne, hn₃⟩)
theorem low_madeK (T : LowTxt K mg C fI) {v : Value} (X : K.In s.heap) (hlim : s.heap.NoLimit) (hroom : A.depth + 1 < recursionLimit)
    (hq : ∀ h' tk e d, OwnMade s.heap h' e C d v → R (.ok (.ret (.ref e))) { s with heap := h', toks := tk }) :
    codeAny (model prog w) A (.call (.ref C) ⟨[], [("key", v)]⟩) R s := by
  obtain ⟨nm, q, N, bs, bm, sn, sub, ab, col, dd, k0, k1, k2, k3, k5, hC, hbm⟩ := T.cls
  obtain ⟨hp, g, dr, tk, os⟩ := s
  have k : ∀ b o, hp.get? b = some o → ((hp.push (kdv_tup [])).push (excO C hp.objs.size)).get? b = some o := fun b o e => Heap.get?_push_of_some _ (Heap.get?_push_of_some _ e)
  have hget : ((hp.push (kdv_tup [])).push (excO C hp.objs.size)).get? (hp.objs.size + 1) = some (excO C hp.objs.size) := by heap_get
  have hnx : K.lookup (hp.objs.size + 1) = none := by
    cases e : K.lookup (hp.objs.size + 1) with
    | none => rfl
    | some o =>
      have z : hp.get? (hp.objs.size + 1) = some o := X _ _ e
      exact absurd (Nat.lt_of_succ_lt (Heap.lt_size z)) (Nat.lt_irrefl _)
  refine call_kw F.excBase_ValueError (fun X => refsVE_contains X bm hbm) (X _ _ hC) (looks_findIn X T.iC) (fun self => bind_fn X self T.tC) ?_
  refine low_initK (s := ⟨(hp.push (kdv_tup [])).push (excO C hp.objs.size), g, dr, tk, os⟩) T (X.keeps k) (hlim.keeps k) hget hnx ?_ fun h' tk' dx ⟨k', hx, dn, dne, hns⟩ => ?_
  · show A.depth + 1 < recursionLimit
    exact hroom
  · have old : ∀ b o, hp.get? b = some o → h'.get? b = some o := fun b o e => k' b o (Nat.ne_of_lt (Nat.lt_succ_of_lt (Heap.lt_size e))) (k b o e)
    have z : hp.objs.size + 1 + 1 ≤ dx := by
      first
        | (simpa only [Heap.size_push] using dn)
        | exact dn
        | (have q := dn; rw [Heap.size_push, Heap.size_push] at q; exact q)
    exact ⟨rfl, hq h' tk' (hp.objs.size + 1) dx ⟨old, Nat.le_succ _, ⟨_, _, hx, rfl, rfl, rfl, rfl⟩, Nat.le_trans (Nat.le_trans (Nat.le_succ _) (Nat.le_succ _)) z, dne, hns⟩⟩
end
end ErrFixed
end PySem
namespace L2
open PySem PySem.Spec PyProof.Rows
theorem relO_low_Fixed {v : V} {v' : Value} (r : RelV v v') (f : Str) : RelO (List.lookup f [(("key" : Str), v)]) (if f = "key" then some v' else none) := by
  by_cases hw : f = "key"
  · subst hw
    rw [if_pos rfl]
    have q : List.lookup ("key" : Str) [(("key" : Str), v)] = some v := by simp [List.lookup]
    rw [q]
    exact r
  · rw [if_neg hw]
    have qw : (f == ("key" : Str)) = false := by simpa using hw
    have q2 : List.lookup f [(("key" : Str), v)] = none := by simp [List.lookup, qw]
    rw [q2]
    trivial
section
variable {X : Cx} {C fI : Addr}
/-- Low(e) -/
def tMkLow_Fixed (C : Addr) (ta : TA) : St → Hp → XK → Prop := fun σ H Q => ta σ H fun vs H1 => ∃ v, vs = [v] ∧ ∀ d, H1 d = none → Q (.ref C) (some d) (upd H1 d (.xd [(("key" : Str), v)]))
theorem pmk_low_Fixed {a : Expr} {ta : TA} {p pos : Pos} {k : Nat} (T : PySem.ErrFixed.LowTxt X.K X.mg C fI) (hr : Room k X.A) (ha : PA X [a] ta) (hg : Gl X "Fixed" := by rfl)
    (he : starEach (a :: []) X.env = (false, eval a X.env) :: starEach [] X.env := by rfl) (hpl : (backTo pos (starEach [] X.env)).any (·.1) = false := by rfl) :
    PMk X (.Call (.Name "Fixed" p) [a] [] pos) (tMkLow_Fixed C ta) := by
  intro pins s σ H Q I h
  refine wpAny_Call_Name_kw (ld_glob I hg T.gC ?_)
  refine PySem.W.callWith_K (h₀ := X.base) I.ok.mod.kin T.kC (thn (ha.run pos pins s σ H _ I h) fun us s1 hh => ?_) he hpl
  obtain ⟨vs, H1, I1, r1, v, ev, q1⟩ := hh
  subst ev
  refine ⟨I1.kIn, ?_⟩
  cases r1 with
  | cons rv rn =>
    rename_i v' us'
    cases rn
    show wpAny _ _ (call (.ref C) [v']) _ _ _
    have hlim := I1.nolimit
    obtain ⟨hp, g, dr, tk, os⟩ := s1
    refine wpAny_call (PySem.ErrFixed.low_made T I1.kIn hlim (by have := hr.dp; omega) fun h' tk' e d M => ?_)
    show MkP X pins σ Q (.ref e) ⟨h', g, dr, tk', os⟩
    obtain ⟨oe, fv, hoe, hc, hd, hdat, h1⟩ := M.obj
    have hns := M.ns
    obtain ⟨G', g1, g2⟩ := restrict h' fun b => decide (b ≠ e)
    have gk : ∀ b, b ≠ e → G'.get? b = h'.get? b := fun b hb => g1 b (decide_eq_true hb)
    have ge : G'.get? e = none := g2 e (by simp)
    have old : ∀ b o, hp.get? b = some o → G'.get? b = some o := fun b o q => (gk b (Nat.ne_of_lt (Nat.lt_of_lt_of_le (Heap.lt_size q) M.new))).trans (M.keep b o q)
    have ob : ObjOk X.prog X.w (upd H1 d (.xd [(("key" : Str), v)])) G' d (.xd [(("key" : Str), v)]) :=
      ⟨_, hns.at (fun o q => (gk d M.dne).trans q), fun f => relO_low_Fixed rv f⟩
    have J : Inv X pins σ (upd H1 d (.xd [(("key" : Str), v)])) ⟨G', g, dr, tk', os⟩ := I1.laid (t' := tk') old M.dbig ob
    refine ⟨e, oe, fv, ⟨G', g, dr, tk', os⟩, _, .ref C, some d, rfl, J, fun b o q => ?_, ge, hoe, ⟨hc, hd⟩, hdat, h1, ?_, rfl, I1.bare, raises_own T.exC T.tyC, q1 d (I1.hok.fresh M.dbig)⟩
    · by_cases hb : b = e
      · have q' : G'.get? b = some o := q
        rw [hb, ge] at q'; cases q'
      · exact (gk b hb).symm.trans q
    · rw [upd_ne (Ne.symm M.dne)]
      exact I1.hok.fresh M.new
/-- raise Low(e) -/
def tRaiseLow_Fixed (C : Addr) (W : WX) (ta : TA) : TS := fun _ σ H => tMkLow_Fixed C ta σ H fun cls d H' => W cls d σ H'
theorem ps_raiseLow_Fixed {a : Expr} {ta : TA} {W : WX} {p pos pos2 : Pos} {k : Nat} (hc : X.calm = true) (T : PySem.ErrFixed.LowTxt X.K X.mg C fI) (hr : Room k X.A) (tk : Takes X W) (ha : PA X [a] ta) (hg : Gl X "Fixed" := by rfl)
    (he : starEach (a :: []) X.env = (false, eval a X.env) :: starEach [] X.env := by rfl) (hpl : (backTo pos (starEach [] X.env)).any (·.1) = false := by rfl) :
    PS X (.Raise (some (.Call (.Name "Fixed" p) [a] [] pos)) none pos2) (tRaiseLow_Fixed C W ta) := ps_raise hc tk (pmk_low_Fixed T hr ha hg he hpl)
/-- C(f = e).f -/
theorem pe_namk_Fixed {e : Expr} {te : TE} {p kp pos pos2 : Pos} {k : Nat} (T : PySem.ErrFixed.LowTxt X.K X.mg C fI) (hr : Room k X.A) (he : PE X e te) (hg : Gl X "Fixed" := by rfl)
    (hall : (backToKw pos (keywordEach [⟨some "key", e, kp⟩] X.env)).all (·.1.isSome) = true := by rfl) (hks : (backToKw pos (keywordEach [⟨some "key", e, kp⟩] X.env)).filterMap (·.1) = [("key" : Str)] := by rfl)
    (hpl : ((backTo pos (starEach [] X.env)).any (·.1) || (backToKw pos (keywordEach [⟨some "key", e, kp⟩] X.env)).any (·.1.isNone)) = false := by rfl)
    (hb : attributeBase (.Call (.Name "Fixed" p) [] [⟨some "key", e, kp⟩] pos) "key" X.env (eval (.Call (.Name "Fixed" p) [] [⟨some "key", e, kp⟩] pos) X.env) = eval (.Call (.Name "Fixed" p) [] [⟨some "key", e, kp⟩] pos) X.env := by rfl) :
    PE X (.Attribute (.Call (.Name "Fixed" p) [] [⟨some "key", e, kp⟩] pos) "key" pos2) te := by
  refine ⟨fun pins s σ H Q I h => ?_⟩
  refine attr_of hb ?_
  refine wpAny_Call_Name_kw (ld_glob I hg T.gC ?_)
  refine PySem.W.callWith_KW0 (h₀ := X.base) I.ok.mod.kin T.kC hall (thn ((pk_one he).run pos pins s σ H (fun zs H2 => match zs with | [v] => Q v H2 | _ => False) I h) fun us s1 hh => ?_) hpl
  obtain ⟨vs, H1, I1, r1, q1⟩ := hh
  refine ⟨I1.kIn, ?_⟩
  rw [hks]
  match vs, us, r1, q1 with
  | [v], [v'], .cons rv .nil, q1 =>
    have hlim := I1.nolimit
    obtain ⟨hp, g, dr, tk, os⟩ := s1
    refine wpAny_call (PySem.ErrFixed.low_madeK T I1.kIn hlim (by have := hr.dp; omega) fun h' tk' e d M => ?_)
    show wpAny _ _ (getAttr (.ref e) "key" true) _ _ ⟨h', g, dr, tk', os⟩
    obtain ⟨oe, fv, hoe, hc, hd, hdat, h1⟩ := M.obj
    obtain ⟨od, hod, hl⟩ := lookIn_ns M.ns
    have J : PySem.W.InstAt h' e oe C (some od) := ⟨hoe, hc, by unfold PySem.W.notCls; rw [hdat] <;> rfl, by rw [hd]; exact hod⟩
    have I2 : Inv X pins σ H1 ⟨h', g, dr, tk', os⟩ := I1.kept (t' := tk') M.keep
    exact HandSPX.exc_get I2.kIn J T.ga T.gg T.exC (PySem.W.findObj_own T.hdC T.noN rfl (by rw [hl, if_pos rfl])) (handed_of rv) ⟨v, H1, I2.tok _, rv, q1⟩
end
end L2
namespace PySem
namespace ErrTooMany
open PySem.W PySem.Calls PyProof.Rows PySem.HandSPX
def iA (p1 p2 : Pos) : Arguments := { posonlyargs := [], args := [{ arg := "self", annotation := none, pos := p1 }, { arg := "limit", annotation := none, pos := p2 }], vararg := none, kwonlyargs := [], kw_defaults := [], kwarg := none, defaults := [] }
def iB (q1 q2 q3 q4 : Pos) : List Stmt := [.Assign [.Attribute (.Name "self" q1) "limit" q2] (.Name "limit" q3) q4]
def iS : Scope := { kind := .function, names := [(PySem.Str.ofString "self", .local), (PySem.Str.ofString "limit", .local)], isGenerator := false, isCoroutine := false, more := [] }
/-- what the written part says of Low, at C, and of its __init__, at fI -/
structure LowTxt (K : Frag) (mg : Str → Option Value) (C fI : Addr) : Prop where
  gC : mg "TooMany" = some (.ref C)
  cls : ∃ nm q N bs bm sn sub ab col dd k0 k1 k2 k3 k5, K.lookup C = some (excClassObj nm q C N bs bm true sn sub ab col dd k0 k1 k2 k3 k5 "OverflowError.__new__") ∧ refsT oeTail bm = true
  sa : findIn K (.ref C) "__setattr__" = some (some (.builtin "object.__setattr__"))
  ga : findIn K (.ref C) "__getattribute__" = some (some (.builtin "BaseException.__getattribute__"))
  gg : findIn K (.ref C) "__getattr__" = some none
  noN : findIn K (.ref C) "limit" = some none
  iC : findIn K (.ref C) "__init__" = some (some (.ref fI))
  tC : typeIn K (.ref fI) = some (.type "function")
  kC : keepIn K (.ref C) = true
  exC : subIn K (.ref C) (.type "BaseException") = some true
  tyC : typeIn K (.ref C) = some (.type "type")
  hdC : hasDictIn K C = true
  te : exmOne K (.ref C) (.ref C) = some true
  fn : ∃ (oc : Value) (od : Option Addr) (doc pm : Value) (an : Option Addr) (cdv ct : Value) (osl : Array (Option Value)) (p1 p2 q1 q2 q3 q4 : Pos),
    K.lookup fI = some ⟨oc, od, .func (fnOf "__init__" "TooMany.__init__" (iA p1 p2) (iB q1 q2 q3 q4) iS .none .none doc pm an cdv ct), osl⟩ ∧ codeIn K cdv "TooMany.__init__" = true
theorem one_size (v : Value) : [v].length ≤ sizeLine := by
  rw [sizeLine_eq]
  exact (by decide : 1 ≤ 16777216)
theorem ldC {M : Model} {s : Shared} {name : Str} {scope : Scope} {L a : Addr} {cd : Value} {m : Str → Option Value} {x : Str} {pos : Pos} {v : Value} {Q : Value → Shared → Prop} {A : Around} {E : Value → Shared → Prop} (hn : s.heap.Ns L m) (hv : m x = some v) (h : Q v s)
    (hk : scope.kind = .function := by rfl) (hl : (envOfC name scope L a cd).kindOf x = some .local := by rfl) (hd : (x == ("__debug__" : Str)) = false := by decide) :
    wpAny M A (eval (.Name x pos) (envOfC name scope L a cd)) Q E s := wpAny_Name (wpAny_loadName_local hk hl hn hv h) hd
/-- what __init__ leaves of a fresh exception at x -/
structure InitEnd (h h' : Heap) (x C dx t1 : Addr) (v : Value) : Prop where
  keep : ∀ b o, b ≠ x → h.get? b = some o → h'.get? b = some o
  obj : h'.get? x = some { cls := .ref C, dict := some dx, data := .fields #[.ref t1, .none, .none, .none, .bool false, .none] }
  dbig : h.objs.size ≤ dx
  dne : dx ≠ x
  ns : h'.Ns1 dx (fun y => if y = "limit" then some v else none)
/-- a made Low -/
structure OwnMade (h h' : Heap) (e C d : Addr) (v : Value) : Prop where
  keep : ∀ b o, h.get? b = some o → h'.get? b = some o
  new : h.objs.size ≤ e
  obj : ∃ oe vs, h'.get? e = some oe ∧ oe.cls = .ref C ∧ oe.dict = some d ∧ oe.data = .fields vs ∧ vs[1]? = some .none
  dbig : h.objs.size ≤ d
  dne : d ≠ e
  ns : h'.Ns1 d (fun y => if y = "limit" then some v else none)
section
variable {prog : Program} {w : World} {A : Around} {E : Value → Shared → Prop} {R : Result → Shared → Prop} {s : Shared} {K : Frag} {mg : Str → Option Value} {C fI : Addr}
theorem low_init (T : LowTxt K mg C fI) {x t0 : Addr} {v : Value} (X : K.In s.heap) (hlim : s.heap.NoLimit) (hx : s.heap.get? x = some (excO C t0)) (hnx : K.lookup x = none) (hroom : A.depth < recursionLimit)
    (hq : ∀ h' tk dx, InitEnd s.heap h' x C dx t0 v → R (.ok (.ret .none)) { s with heap := h', toks := tk }) :
    codeAny (model prog w) A (.call (.ref fI) ⟨[.ref x, v], []⟩) R s := by
  obtain ⟨oc, od, doc, pm, an, cdv, ct, osl, p1, p2, q1, q2, q3, q4, ho, hcd⟩ := T.fn
  obtain ⟨nm, q, N, bs, bm, sn, sub, ab, col, dd, k0, k1, k2, k3, k5, hC, hbm⟩ := T.cls
  have hcl : clsIn K C = some { name := nm, bases := bs, mro := .ref C :: bm, ns := N, qualname := q, hasDict := true, slotNames := sn, subclasses := sub, abstract := ab, collection := col, hasDel := false } := by unfold clsIn; rw [hC] <;> rfl
  refine Att.call_fn (binds := [("self", .ref x), ("limit", v)]) X hlim ho hcd hroom (BindsTo.of_eq (by first | rfl | with_unfolding_all rfl)) (by first | rfl | decide | with_unfolding_all rfl) (fun s₁ IC => ?_) rfl rfl rfl
  obtain ⟨h₁, tk₁, rfl⟩ := IC.toInCall.same
  have k : ∀ b o, s.heap.get? b = some o → h₁.get? b = some o := IC.toInCall.keep
  have hn := IC.toInCall.ns
  have hxL : s.heap.objs.size ≠ x := Nat.ne_of_gt (Heap.lt_size hx)
  have X₁ : K.In h₁ := X.keeps k
  have hx₁ := k _ _ hx
  -- self.by = by
  show wpAny _ _ (execs _ _) _ _ _
  refine wpAny_execs_cons (plainObj_wpAny_Assign_Attribute ?_)
  refine ldC (v := v) hn (by first | rfl | with_unfolding_all rfl | kernel_rfl) (ldC (v := .ref x) hn (by first | rfl | with_unfolding_all rfl | kernel_rfl) ?_)
  refine set_plain X₁ (ox := excO C t0) (od := none) ⟨hx₁, rfl, rfl, trivial⟩ T.sa ?_
  refine exc_osaT tail_oe X₁ hx₁ hcl (show refsT oeTail (.ref C :: bm) = true from hbm) rfl T.noN (fun h₃ tk₃ dx k₃ dn dne hx₃ hn₃ => ?_)
  show wpAny _ _ (execs _ _) _ _ _
  have z : s.heap.objs.size < h₁.objs.size := hn.lt
  exact wpAny_execs_nil (hq h₃ tk₃ dx ⟨fun b o hb e => k₃ b o hb (k b o e), hx₃, Nat.le_of_lt (Nat.lt_of_lt_of_le z dn), dne, hn₃⟩)
theorem low_made (T : LowTxt K mg C fI) {v : Value} (X : K.In s.heap) (hlim : s.heap.NoLimit) (hroom : A.depth + 1 < recursionLimit)
    (hq : ∀ h' tk e d, OwnMade s.heap h' e C d v → R (.ok (.ret (.ref e))) { s with heap := h', toks := tk }) :
    codeAny (model prog w) A (.call (.ref C) ⟨[v], []⟩) R s := by
  obtain ⟨nm, q, N, bs, bm, sn, sub, ab, col, dd, k0, k1, k2, k3, k5, hC, hbm⟩ := T.cls
  obtain ⟨hp, g, dr, tk, os⟩ := s
  have k : ∀ b o, hp.get? b = some o → ((hp.push (kdv_tup [v])).push (excO C hp.objs.size)).get? b = some o := fun b o e => Heap.get?_push_of_some _ (Heap.get?_push_of_some _ e)
  have hget : ((hp.push (kdv_tup [v])).push (excO C hp.objs.size)).get? (hp.objs.size + 1) = some (excO C hp.objs.size) := by heap_get
  have hnx : K.lookup (hp.objs.size + 1) = none := by
    cases e : K.lookup (hp.objs.size + 1) with
    | none => rfl
    | some o =>
      have z : hp.get? (hp.objs.size + 1) = some o := X _ _ e
      exact absurd (Nat.lt_of_succ_lt (Heap.lt_size z)) (Nat.lt_irrefl _)
  refine call_own F.excBase_OverflowError (fun X => refsT_contains X bm hbm) (X _ _ hC) (looks_findIn X T.iC) (fun self => bind_fn X self T.tC) (one_size v) ?_
  refine low_init (s := ⟨(hp.push (kdv_tup [v])).push (excO C hp.objs.size), g, dr, tk, os⟩) T (X.keeps k) (hlim.keeps k) hget hnx ?_ fun h' tk' dx ⟨k', hx, dn, dne, hns⟩ => ?_
  · show A.depth + 1 < recursionLimit
    exact hroom
  · have old : ∀ b o, hp.get? b = some o → h'.get? b = some o := fun b o e => k' b o (Nat.ne_of_lt (Nat.lt_succ_of_lt (Heap.lt_size e))) (k b o e)
    have z : hp.objs.size + 1 + 1 ≤ dx := by
      first
        | (simpa only [Heap.size_push] using dn)
        | exact dn
        | (have q := dn; rw [Heap.size_push, Heap.size_push] at q; exact q)
    exact ⟨rfl, hq h' tk' (hp.objs.size + 1) dx ⟨old, Nat.le_succ _, ⟨_, _, hx, rfl, rfl, rfl, rfl⟩, Nat.le_trans (Nat.le_trans (Nat.le_succ _) (Nat.le_succ _)) z, dne, hns⟩⟩
theorem low_initK (T : LowTxt K mg C fI) {x t0 : Addr} {v : Value} (X : K.In s.heap) (hlim : s.heap.NoLimit) (hx : s.heap.get? x = some (excO C t0)) (hnx : K.lookup x = none) (hroom : A.depth < recursionLimit)
    (hq : ∀ h' tk dx, InitEnd s.heap h' x C dx t0 v → R (.ok (.ret .none)) { s with heap := h', toks := tk }) :
    codeAny (model prog w) A (.call (.ref fI) ⟨[.ref x], [("limit", v)]⟩) R s := by
  obtain ⟨oc, od, doc, pm, an, cdv, ct, osl, p1, p2, q1, q2, q3, q4, ho, hcd⟩ := T.fn
  obtain ⟨nm, q, N, bs, bm, sn, sub, ab, col, dd, k0, k1, k2, k3, k5, hC, hbm⟩ := T.cls
  have hcl : clsIn K C = some { name := nm, bases := bs, mro := .ref C :: bm, ns := N, qualname := q, hasDict := true, slotNames := sn, subclasses := sub, abstract := ab, collection := col, hasDel := false } := by unfold clsIn; rw [hC] <;> rfl
  refine Att.call_fn (binds := [("self", .ref x), ("limit", v)]) X hlim ho hcd hroom (BindsTo.of_eq (by first | rfl | with_unfolding_all rfl)) (by first | rfl | decide | with_unfolding_all rfl) (fun s₁ IC => ?_) rfl rfl rfl
  obtain ⟨h₁, tk₁, rfl⟩ := IC.toInCall.same
  have k : ∀ b o, s.heap.get? b = some o → h₁.get? b = some o := IC.toInCall.keep
  have hn := IC.toInCall.ns
  have hxL : s.heap.objs.size ≠ x := Nat.ne_of_gt (Heap.lt_size hx)
  have X₁ : K.In h₁ := X.keeps k
  have hx₁ := k _ _ hx
  -- self.by = by
  show wpAny _ _ (execs _ _) _ _ _
  refine wpAny_execs_cons (plainObj_wpAny_Assign_Attribute ?_)
  refine ldC (v := v) hn (by first | rfl | with_unfolding_all rfl | kernel_rfl) (ldC (v := .ref x) hn (by first | rfl | with_unfolding_all rfl | kernel_rfl) ?_)
  refine set_plain X₁ (ox := excO C t0) (od := none) ⟨hx₁, rfl, rfl, trivial⟩ T.sa ?_
  refine exc_osaT tail_oe X₁ hx₁ hcl (show refsT oeTail (.ref C :: bm) = true from hbm) rfl T.noN (fun h₃ tk₃ dx k₃ dn dne hx₃ hn₃ => ?_)
  show wpAny _ _ (execs _ _) _ _ _
  have z : s.heap.objs.size < h₁.objs.size := hn.lt
  exact wpAny_execs_nil (hq h₃ tk₃ dx ⟨fun b o hb e => k₃ b o hb (k b o e), hx₃, Nat.le_of_lt (Nat.lt_of_lt_of_le z dn), dne, hn₃⟩)
theorem low_madeK (T : LowTxt K mg C fI) {v : Value} (X : K.In s.heap) (hlim : s.heap.NoLimit) (hroom : A.depth + 1 < recursionLimit)
    (hq : ∀ h' tk e d, OwnMade s.heap h' e C d v → R (.ok (.ret (.ref e))) { s with heap := h', toks := tk }) :
    codeAny (model prog w) A (.call (.ref C) ⟨[], [("limit", v)]⟩) R s := by
  obtain ⟨nm, q, N, bs, bm, sn, sub, ab, col, dd, k0, k1, k2, k3, k5, hC, hbm⟩ := T.cls
  obtain ⟨hp, g, dr, tk, os⟩ := s
  have k : ∀ b o, hp.get? b = some o → ((hp.push (kdv_tup [])).push (excO C hp.objs.size)).get? b = some o := fun b o e => Heap.get?_push_of_some _ (Heap.get?_push_of_some _ e)
  have hget : ((hp.push (kdv_tup [])).push (excO C hp.objs.size)).get? (hp.objs.size + 1) = some (excO C hp.objs.size) := by heap_get
  have hnx : K.lookup (hp.objs.size + 1) = none := by
    cases e : K.lookup (hp.objs.size + 1) with
    | none => rfl
    | some o =>
      have z : hp.get? (hp.objs.size + 1) = some o := X _ _ e
      exact absurd (Nat.lt_of_succ_lt (Heap.lt_size z)) (Nat.lt_irrefl _)
  refine call_kw F.excBase_OverflowError (fun X => refsT_contains X bm hbm) (X _ _ hC) (looks_findIn X T.iC) (fun self => bind_fn X self T.tC) ?_
  refine low_initK (s := ⟨(hp.push (kdv_tup [])).push (excO C hp.objs.size), g, dr, tk, os⟩) T (X.keeps k) (hlim.keeps k) hget hnx ?_ fun h' tk' dx ⟨k', hx, dn, dne, hns⟩ => ?_
  · show A.depth + 1 < recursionLimit
    exact hroom
  · have old : ∀ b o, hp.get? b = some o → h'.get? b = some o := fun b o e => k' b o (Nat.ne_of_lt (Nat.lt_succ_of_lt (Heap.lt_size e))) (k b o e)
    have z : hp.objs.size + 1 + 1 ≤ dx := by
      first
        | (simpa only [Heap.size_push] using dn)
        | exact dn
        | (have q := dn; rw [Heap.size_push, Heap.size_push] at q; exact q)
    exact ⟨rfl, hq h' tk' (hp.objs.size + 1) dx ⟨old, Nat.le_succ _, ⟨_, _, hx, rfl, rfl, rfl, rfl⟩, Nat.le_trans (Nat.le_trans (Nat.le_succ _) (Nat.le_succ _)) z, dne, hns⟩⟩
end
end ErrTooMany
end PySem
namespace L2
open PySem PySem.Spec PyProof.Rows
theorem relO_low_TooMany {v : V} {v' : Value} (r : RelV v v') (f : Str) : RelO (List.lookup f [(("limit" : Str), v)]) (if f = "limit" then some v' else none) := by
  by_cases hw : f = "limit"
  · subst hw
    rw [if_pos rfl]
    have q : List.lookup ("limit" : Str) [(("limit" : Str), v)] = some v := by simp [List.lookup]
    rw [q]
    exact r
  · rw [if_neg hw]
    have qw : (f == ("limit" : Str)) = false := by simpa using hw
    have q2 : List.lookup f [(("limit" : Str), v)] = none := by simp [List.lookup, qw]
    rw [q2]
    trivial
section
variable {X : Cx} {C fI : Addr}
/-- Low(e) -/
def tMkLow_TooMany (C : Addr) (ta : TA) : St → Hp → XK → Prop := fun σ H Q => ta σ H fun vs H1 => ∃ v, vs = [v] ∧ ∀ d, H1 d = none → Q (.ref C) (some d) (upd H1 d (.xd [(("limit" : Str), v)]))
theorem pmk_low_TooMany {a : Expr} {ta : TA} {p pos : Pos} {k : Nat} (T : PySem.ErrTooMany.LowTxt X.K X.mg C fI) (hr : Room k X.A) (ha : PA X [a] ta) (hg : Gl X "TooMany" := by rfl)
    (he : starEach (a :: []) X.env = (false, eval a X.env) :: starEach [] X.env := by rfl) (hpl : (backTo pos (starEach [] X.env)).any (·.1) = false := by rfl) :
    PMk X (.Call (.Name "TooMany" p) [a] [] pos) (tMkLow_TooMany C ta) := by
  intro pins s σ H Q I h
  refine wpAny_Call_Name_kw (ld_glob I hg T.gC ?_)
  refine PySem.W.callWith_K (h₀ := X.base) I.ok.mod.kin T.kC (thn (ha.run pos pins s σ H _ I h) fun us s1 hh => ?_) he hpl
  obtain ⟨vs, H1, I1, r1, v, ev, q1⟩ := hh
  subst ev
  refine ⟨I1.kIn, ?_⟩
  cases r1 with
  | cons rv rn =>
    rename_i v' us'
    cases rn
    show wpAny _ _ (call (.ref C) [v']) _ _ _
    have hlim := I1.nolimit
    obtain ⟨hp, g, dr, tk, os⟩ := s1
    refine wpAny_call (PySem.ErrTooMany.low_made T I1.kIn hlim (by have := hr.dp; omega) fun h' tk' e d M => ?_)
    show MkP X pins σ Q (.ref e) ⟨h', g, dr, tk', os⟩
    obtain ⟨oe, fv, hoe, hc, hd, hdat, h1⟩ := M.obj
    have hns := M.ns
    obtain ⟨G', g1, g2⟩ := restrict h' fun b => decide (b ≠ e)
    have gk : ∀ b, b ≠ e → G'.get? b = h'.get? b := fun b hb => g1 b (decide_eq_true hb)
    have ge : G'.get? e = none := g2 e (by simp)
    have old : ∀ b o, hp.get? b = some o → G'.get? b = some o := fun b o q => (gk b (Nat.ne_of_lt (Nat.lt_of_lt_of_le (Heap.lt_size q) M.new))).trans (M.keep b o q)
    have ob : ObjOk X.prog X.w (upd H1 d (.xd [(("limit" : Str), v)])) G' d (.xd [(("limit" : Str), v)]) :=
      ⟨_, hns.at (fun o q => (gk d M.dne).trans q), fun f => relO_low_TooMany rv f⟩
    have J : Inv X pins σ (upd H1 d (.xd [(("limit" : Str), v)])) ⟨G', g, dr, tk', os⟩ := I1.laid (t' := tk') old M.dbig ob
    refine ⟨e, oe, fv, ⟨G', g, dr, tk', os⟩, _, .ref C, some d, rfl, J, fun b o q => ?_, ge, hoe, ⟨hc, hd⟩, hdat, h1, ?_, rfl, I1.bare, raises_own T.exC T.tyC, q1 d (I1.hok.fresh M.dbig)⟩
    · by_cases hb : b = e
      · have q' : G'.get? b = some o := q
        rw [hb, ge] at q'; cases q'
      · exact (gk b hb).symm.trans q
    · rw [upd_ne (Ne.symm M.dne)]
      exact I1.hok.fresh M.new
/-- raise Low(e) -/
def tRaiseLow_TooMany (C : Addr) (W : WX) (ta : TA) : TS := fun _ σ H => tMkLow_TooMany C ta σ H fun cls d H' => W cls d σ H'
theorem ps_raiseLow_TooMany {a : Expr} {ta : TA} {W : WX} {p pos pos2 : Pos} {k : Nat} (hc : X.calm = true) (T : PySem.ErrTooMany.LowTxt X.K X.mg C fI) (hr : Room k X.A) (tk : Takes X W) (ha : PA X [a] ta) (hg : Gl X "TooMany" := by rfl)
    (he : starEach (a :: []) X.env = (false, eval a X.env) :: starEach [] X.env := by rfl) (hpl : (backTo pos (starEach [] X.env)).any (·.1) = false := by rfl) :
    PS X (.Raise (some (.Call (.Name "TooMany" p) [a] [] pos)) none pos2) (tRaiseLow_TooMany C W ta) := ps_raise hc tk (pmk_low_TooMany T hr ha hg he hpl)
/-- C(f = e).f -/
theorem pe_namk_TooMany {e : Expr} {te : TE} {p kp pos pos2 : Pos} {k : Nat} (T : PySem.ErrTooMany.LowTxt X.K X.mg C fI) (hr : Room k X.A) (he : PE X e te) (hg : Gl X "TooMany" := by rfl)
    (hall : (backToKw pos (keywordEach [⟨some "limit", e, kp⟩] X.env)).all (·.1.isSome) = true := by rfl) (hks : (backToKw pos (keywordEach [⟨some "limit", e, kp⟩] X.env)).filterMap (·.1) = [("limit" : Str)] := by rfl)
    (hpl : ((backTo pos (starEach [] X.env)).any (·.1) || (backToKw pos (keywordEach [⟨some "limit", e, kp⟩] X.env)).any (·.1.isNone)) = false := by rfl)
    (hb : attributeBase (.Call (.Name "TooMany" p) [] [⟨some "limit", e, kp⟩] pos) "limit" X.env (eval (.Call (.Name "TooMany" p) [] [⟨some "limit", e, kp⟩] pos) X.env) = eval (.Call (.Name "TooMany" p) [] [⟨some "limit", e, kp⟩] pos) X.env := by rfl) :
    PE X (.Attribute (.Call (.Name "TooMany" p) [] [⟨some "limit", e, kp⟩] pos) "limit" pos2) te := by
  refine ⟨fun pins s σ H Q I h => ?_⟩
  refine attr_of hb ?_
  refine wpAny_Call_Name_kw (ld_glob I hg T.gC ?_)
  refine PySem.W.callWith_KW0 (h₀ := X.base) I.ok.mod.kin T.kC hall (thn ((pk_one he).run pos pins s σ H (fun zs H2 => match zs with | [v] => Q v H2 | _ => False) I h) fun us s1 hh => ?_) hpl
  obtain ⟨vs, H1, I1, r1, q1⟩ := hh
  refine ⟨I1.kIn, ?_⟩
  rw [hks]
  match vs, us, r1, q1 with
  | [v], [v'], .cons rv .nil, q1 =>
    have hlim := I1.nolimit
    obtain ⟨hp, g, dr, tk, os⟩ := s1
    refine wpAny_call (PySem.ErrTooMany.low_madeK T I1.kIn hlim (by have := hr.dp; omega) fun h' tk' e d M => ?_)
    show wpAny _ _ (getAttr (.ref e) "limit" true) _ _ ⟨h', g, dr, tk', os⟩
    obtain ⟨oe, fv, hoe, hc, hd, hdat, h1⟩ := M.obj
    obtain ⟨od, hod, hl⟩ := lookIn_ns M.ns
    have J : PySem.W.InstAt h' e oe C (some od) := ⟨hoe, hc, by unfold PySem.W.notCls; rw [hdat] <;> rfl, by rw [hd]; exact hod⟩
    have I2 : Inv X pins σ H1 ⟨h', g, dr, tk', os⟩ := I1.kept (t' := tk') M.keep
    exact HandSPX.exc_get I2.kIn J T.ga T.gg T.exC (PySem.W.findObj_own T.hdC T.noN rfl (by rw [hl, if_pos rfl])) (handed_of rv) ⟨v, H1, I2.tok _, rv, q1⟩
end
end L2
namespace PySem
namespace ErrNothingToUndo
open PySem.W PySem.Calls PyProof.Rows PySem.HandSPX
def iA (p1 p2 : Pos) : Arguments := { posonlyargs := [], args := [{ arg := "self", annotation := none, pos := p1 }, { arg := "name", annotation := none, pos := p2 }], vararg := none, kwonlyargs := [], kw_defaults := [], kwarg := none, defaults := [] }
def iB (q1 q2 q3 q4 : Pos) : List Stmt := [.Assign [.Attribute (.Name "self" q1) "name" q2] (.Name "name" q3) q4]
def iS : Scope := { kind := .function, names := [(PySem.Str.ofString "self", .local), (PySem.Str.ofString "name", .local)], isGenerator := false, isCoroutine := false, more := [] }
/-- what the written part says of Low, at C, and of its __init__, at fI -/
structure LowTxt (K : Frag) (mg : Str → Option Value) (C fI : Addr) : Prop where
  gC : mg "NothingToUndo" = some (.ref C)
  cls : ∃ nm q N bs bm sn sub ab col dd k0 k1 k2 k3 k5, K.lookup C = some (excClassObj nm q C N bs bm true sn sub ab col dd k0 k1 k2 k3 k5 "RuntimeError.__new__") ∧ refsT reTail bm = true
  sa : findIn K (.ref C) "__setattr__" = some (some (.builtin "object.__setattr__"))
  ga : findIn K (.ref C) "__getattribute__" = some (some (.builtin "BaseException.__getattribute__"))
  gg : findIn K (.ref C) "__getattr__" = some none
  noN : findIn K (.ref C) "name" = some none
  iC : findIn K (.ref C) "__init__" = some (some (.ref fI))
  tC : typeIn K (.ref fI) = some (.type "function")
  kC : keepIn K (.ref C) = true
  exC : subIn K (.ref C) (.type "BaseException") = some true
  tyC : typeIn K (.ref C) = some (.type "type")
  hdC : hasDictIn K C = true
  te : exmOne K (.ref C) (.ref C) = some true
  fn : ∃ (oc : Value) (od : Option Addr) (doc pm : Value) (an : Option Addr) (cdv ct : Value) (osl : Array (Option Value)) (p1 p2 q1 q2 q3 q4 : Pos),
    K.lookup fI = some ⟨oc, od, .func (fnOf "__init__" "NothingToUndo.__init__" (iA p1 p2) (iB q1 q2 q3 q4) iS .none .none doc pm an cdv ct), osl⟩ ∧ codeIn K cdv "NothingToUndo.__init__" = true
theorem one_size (v : Value) : [v].length ≤ sizeLine := by
  rw [sizeLine_eq]
  exact (by decide : 1 ≤ 16777216)
theorem ldC {M : Model} {s : Shared} {name : Str} {scope : Scope} {L a : Addr} {cd : Value} {m : Str → Option Value} {x : Str} {pos : Pos} {v : Value} {Q : Value → Shared → Prop} {A : Around} {E : Value → Shared → Prop} (hn : s.heap.Ns L m) (hv : m x = some v) (h : Q v s)
    (hk : scope.kind = .function := by rfl) (hl : (envOfC name scope L a cd).kindOf x = some .local := by rfl) (hd : (x == ("__debug__" : Str)) = false := by decide) :
    wpAny M A (eval (.Name x pos) (envOfC name scope L a cd)) Q E s := wpAny_Name (wpAny_loadName_local hk hl hn hv h) hd
/-- what __init__ leaves of a fresh exception at x -/
structure InitEnd (h h' : Heap) (x C dx t1 : Addr) (v : Value) : Prop where
  keep : ∀ b o, b ≠ x → h.get? b = some o → h'.get? b = some o
  obj : h'.get? x = some { cls := .ref C, dict := some dx, data := .fields #[.ref t1, .none, .none, .none, .bool false, .none] }
  dbig : h.objs.size ≤ dx
  dne : dx ≠ x
  ns : h'.Ns1 dx (fun y => if y = "name" then some v else none)
/-- a made Low -/
structure OwnMade (h h' : Heap) (e C d : Addr) (v : Value) : Prop where
  keep : ∀ b o, h.get? b = some o → h'.get? b = some o
  new : h.objs.size ≤ e
  obj : ∃ oe vs, h'.get? e = some oe ∧ oe.cls = .ref C ∧ oe.dict = some d ∧ oe.data = .fields vs ∧ vs[1]? = some .none
  dbig : h.objs.size ≤ d
  dne : d ≠ e
  ns : h'.Ns1 d (fun y => if y = "name" then some v else none)
section
variable {prog : Program} {w : World} {A : Around} {E : Value → Shared → Prop} {R : Result → Shared → Prop} {s : Shared} {K : Frag} {mg : Str → Option Value} {C fI : Addr}
theorem low_init (T : LowTxt K mg C fI) {x t0 : Addr} {v : Value} (X : K.In s.heap) (hlim : s.heap.NoLimit) (hx : s.heap.get? x = some (excO C t0)) (hnx : K.lookup x = none) (hroom : A.depth < recursionLimit)
    (hq : ∀ h' tk dx, InitEnd s.heap h' x C dx t0 v → R (.ok (.ret .none)) { s with heap := h', toks := tk }) :
    codeAny (model prog w) A (.call (.ref fI) ⟨[.ref x, v], []⟩) R s := by
  obtain ⟨oc, od, doc, pm, an, cdv, ct, osl, p1, p2, q1, q2, q3, q4, ho, hcd⟩ := T.fn
  obtain ⟨nm, q, N, bs, bm, sn, sub, ab, col, dd, k0, k1, k2, k3, k5, hC, hbm⟩ := T.cls
  have hcl : clsIn K C = some { name := nm, bases := bs, mro := .ref C :: bm, ns := N, qualname := q, hasDict := true, slotNames := sn, subclasses := sub, abstract := ab, collection := col, hasDel := false } := by unfold clsIn; rw [hC] <;> rfl
  refine Att.call_fn (binds := [("self", .ref x), ("name", v)]) X hlim ho hcd hroom (BindsTo.of_eq (by first | rfl | with_unfolding_all rfl)) (by first | rfl | decide | with_unfolding_all rfl) (fun s₁ IC => ?_) rfl rfl rfl
  obtain ⟨h₁, tk₁, rfl⟩ := IC.toInCall.same
  have k : ∀ b o, s.heap.get? b = some o → h₁.get? b = some o := IC.toInCall.keep
  have hn := IC.toInCall.ns
  have hxL : s.heap.objs.size ≠ x := Nat.ne_of_gt (Heap.lt_size hx)
  have X₁ : K.In h₁ := X.keeps k
  have hx₁ := k _ _ hx
  -- self.by = by
  show wpAny _ _ (execs _ _) _ _ _
  refine wpAny_execs_cons (plainObj_wpAny_Assign_Attribute ?_)
  refine ldC (v := v) hn (by first | rfl | with_unfolding_all rfl | kernel_rfl) (ldC (v := .ref x) hn (by first | rfl | with_unfolding_all rfl | kernel_rfl) ?_)
  refine set_plain X₁ (ox := excO C t0) (od := none) ⟨hx₁, rfl, rfl, trivial⟩ T.sa ?_
  refine exc_osaT tail_re X₁ hx₁ hcl (show refsT reTail (.ref C :: bm) = true from hbm) rfl T.noN (fun h₃ tk₃ dx k₃ dn dne hx₃ hn₃ => ?_)
  show wpAny _ _ (execs _ _) _ _ _
  have z : s.heap.objs.size < h₁.objs.size := hn.lt
  exact wpAny_execs_nil (hq h₃ tk₃ dx ⟨fun b o hb e => k₃ b o hb (k b o e), hx₃, Nat.le_of_lt (Nat.lt_of_lt_of_le z dn), dne, hn₃⟩)
theorem low_made (T : LowTxt K mg C fI) {v : Value} (X : K.In s.heap) (hlim : s.heap.NoLimit) (hroom : A.depth + 1 < recursionLimit)
    (hq : ∀ h' tk e d, OwnMade s.heap h' e C d v → R (.ok (.ret (.ref e))) { s with heap := h', toks := tk }) :
    codeAny (model prog w) A (.call (.ref C) ⟨[v], []⟩) R s := by
  obtain ⟨nm, q, N, bs, bm, sn, sub, ab, col, dd, k0, k1, k2, k3, k5, hC, hbm⟩ := T.cls
  obtain ⟨hp, g, dr, tk, os⟩ := s
  have k : ∀ b o, hp.get? b = some o → ((hp.push (kdv_tup [v])).push (excO C hp.objs.size)).get? b = some o := fun b o e => Heap.get?_push_of_some _ (Heap.get?_push_of_some _ e)
  have hget : ((hp.push (kdv_tup [v])).push (excO C hp.objs.size)).get? (hp.objs.size + 1) = some (excO C hp.objs.size) := by heap_get
  have hnx : K.lookup (hp.objs.size + 1) = none := by
    cases e : K.lookup (hp.objs.size + 1) with
    | none => rfl
    | some o =>
      have z : hp.get? (hp.objs.size + 1) = some o := X _ _ e
      exact absurd (Nat.lt_of_succ_lt (Heap.lt_size z)) (Nat.lt_irrefl _)
  refine call_own F.excBase_RuntimeError (fun X => refsT_contains X bm hbm) (X _ _ hC) (looks_findIn X T.iC) (fun self => bind_fn X self T.tC) (one_size v) ?_
  refine low_init (s := ⟨(hp.push (kdv_tup [v])).push (excO C hp.objs.size), g, dr, tk, os⟩) T (X.keeps k) (hlim.keeps k) hget hnx ?_ fun h' tk' dx ⟨k', hx, dn, dne, hns⟩ => ?_
  · show A.depth + 1 < recursionLimit
    exact hroom
  · have old : ∀ b o, hp.get? b = some o → h'.get? b = some o := fun b o e => k' b o (Nat.ne_of_lt (Nat.lt_succ_of_lt (Heap.lt_size e))) (k b o e)
    have z : hp.objs.size + 1 + 1 ≤ dx := by
      first
        | (simpa only [Heap.size_push] using dn)
        | exact dn
        | (have q := dn; rw [Heap.size_push, Heap.size_push] at q; exact q)
    exact ⟨rfl, hq h' tk' (hp.objs.size + 1) dx ⟨old, Nat.le_succ _, ⟨_, _, hx, rfl, rfl, rfl, rfl⟩, Nat.le_trans (Nat.le_trans (Nat.le_succ _) (Nat.le_succ _)) z, dne, hns⟩⟩
theorem low_initK (T : LowTxt K mg C fI) {x t0 : Addr} {v : Value} (X : K.In s.heap) (hlim : s.heap.NoLimit) (hx : s.heap.get? x = some (excO C t0)) (hnx : K.lookup x = none) (hroom : A.depth < recursionLimit)
    (hq : ∀ h' tk dx, InitEnd s.heap h' x C dx t0 v → R (.ok (.ret .none)) { s with heap := h', toks := tk }) :
    codeAny (model prog w) A (.call (.ref fI) ⟨[.ref x], [("name", v)]⟩) R s := by
  obtain ⟨oc, od, doc, pm, an, cdv, ct, osl, p1, p2, q1, q2, q3, q4, ho, hcd⟩ := T.fn
  obtain ⟨nm, q, N, bs, bm, sn, sub, ab, col, dd, k0, k1, k2, k3, k5, hC, hbm⟩ := T.cls
  have hcl : clsIn K C = some { name := nm, bases := bs, mro := .ref C :: bm, ns := N, qualname := q, hasDict := true, slotNames := sn, subclasses := sub, abstract := ab, collection := col, hasDel := false } := by unfold clsIn; rw [hC] <;> rfl
  refine Att.call_fn (binds := [("self", .ref x), ("name", v)]) X hlim ho hcd hroom (BindsTo.of_eq (by first | rfl | with_unfolding_all rfl)) (by first | rfl | decide | with_unfolding_all rfl) (fun s₁ IC => ?_) rfl rfl rfl
  obtain ⟨h₁, tk₁, rfl⟩ := IC.toInCall.same
  have k : ∀ b o, s.heap.get? b = some o → h₁.get? b = some o := IC.toInCall.keep
  have hn := IC.toInCall.ns
  have hxL : s.heap.objs.size ≠ x := Nat.ne_of_gt (Heap.lt_size hx)
  have X₁ : K.In h₁ := X.keeps k
  have hx₁ := k _ _ hx
  -- self.by = by
  show wpAny _ _ (execs _ _) _ _ _
  refine wpAny_execs_cons (plainObj_wpAny_Assign_Attribute ?_)
  refine ldC (v := v) hn (by first | rfl | with_unfolding_all rfl | kernel_rfl) (ldC (v := .ref x) hn (by first | rfl | with_unfolding_all rfl | kernel_rfl) ?_)
  refine set_plain X₁ (ox := excO C t0) (od := none) ⟨hx₁, rfl, rfl, trivial⟩ T.sa ?_
  refine exc_osaT tail_re X₁ hx₁ hcl (show refsT reTail (.ref C :: bm) = true from hbm) rfl T.noN (fun h₃ tk₃ dx k₃ dn dne hx₃ hn₃ => ?_)
  show wpAny _ _ (execs _ _) _ _ _
  have z : s.heap.objs.size < h₁.objs.size := hn.lt
  exact wpAny_execs_nil (hq h₃ tk₃ dx ⟨fun b o hb e => k₃ b o hb (k b o e), hx₃, Nat.le_of_lt (Nat.lt_of_lt_of_le z dn), dne, hn₃⟩)
theorem low_madeK (T : LowTxt K mg C fI) {v : Value} (X : K.In s.heap) (hlim : s.heap.NoLimit) (hroom : A.depth + 1 < recursionLimit)
    (hq : ∀ h' tk e d, OwnMade s.heap h' e C d v → R (.ok (.ret (.ref e))) { s with heap := h', toks := tk }) :
    codeAny (model prog w) A (.call (.ref C) ⟨[], [("name", v)]⟩) R s := by
  obtain ⟨nm, q, N, bs, bm, sn, sub, ab, col, dd, k0, k1, k2, k3, k5, hC, hbm⟩ := T.cls
  obtain ⟨hp, g, dr, tk, os⟩ := s
  have k : ∀ b o, hp.get? b = some o → ((hp.push (kdv_tup [])).push (excO C hp.objs.size)).get? b = some o := fun b o e => Heap.get?_push_of_some _ (Heap.get?_push_of_some _ e)
  have hget : ((hp.push (kdv_tup [])).push (excO C hp.objs.size)).get? (hp.objs.size + 1) = some (excO C hp.objs.size) := by heap_get
  have hnx : K.lookup (hp.objs.size + 1) = none := by
    cases e : K.lookup (hp.objs.size + 1) with
    | none => rfl
    | some o =>
      have z : hp.get? (hp.objs.size + 1) = some o := X _ _ e
      exact absurd (Nat.lt_of_succ_lt (Heap.lt_size z)) (Nat.lt_irrefl _)
  refine call_kw F.excBase_RuntimeError (fun X => refsT_contains X bm hbm) (X _ _ hC) (looks_findIn X T.iC) (fun self => bind_fn X self T.tC) ?_
  refine low_initK (s := ⟨(hp.push (kdv_tup [])).push (excO C hp.objs.size), g, dr, tk, os⟩) T (X.keeps k) (hlim.keeps k) hget hnx ?_ fun h' tk' dx ⟨k', hx, dn, dne, hns⟩ => ?_
  · show A.depth + 1 < recursionLimit
    exact hroom
  · have old : ∀ b o, hp.get? b = some o → h'.get? b = some o := fun b o e => k' b o (Nat.ne_of_lt (Nat.lt_succ_of_lt (Heap.lt_size e))) (k b o e)
    have z : hp.objs.size + 1 + 1 ≤ dx := by
      first
        | (simpa only [Heap.size_push] using dn)
        | exact dn
        | (have q := dn; rw [Heap.size_push, Heap.size_push] at q; exact q)
    exact ⟨rfl, hq h' tk' (hp.objs.size + 1) dx ⟨old, Nat.le_succ _, ⟨_, _, hx, rfl, rfl, rfl, rfl⟩, Nat.le_trans (Nat.le_trans (Nat.le_succ _) (Nat.le_succ _)) z, dne, hns⟩⟩
end
end ErrNothingToUndo
end PySem
namespace L2
open PySem PySem.Spec PyProof.Rows
theorem relO_low_NothingToUndo {v : V} {v' : Value} (r : RelV v v') (f : Str) : RelO (List.lookup f [(("name" : Str), v)]) (if f = "name" then some v' else none) := by
  by_cases hw : f = "name"
  · subst hw
    rw [if_pos rfl]
    have q : List.lookup ("name" : Str) [(("name" : Str), v)] = some v := by simp [List.lookup]
    rw [q]
    exact r
  · rw [if_neg hw]
    have qw : (f == ("name" : Str)) = false := by simpa using hw
    have q2 : List.lookup f [(("name" : Str), v)] = none := by simp [List.lookup, qw]
    rw [q2]
    trivial
section
variable {X : Cx} {C fI : Addr}
/-- Low(e) -/
def tMkLow_NothingToUndo (C : Addr) (ta : TA) : St → Hp → XK → Prop := fun σ H Q => ta σ H fun vs H1 => ∃ v, vs = [v] ∧ ∀ d, H1 d = none → Q (.ref C) (some d) (upd H1 d (.xd [(("name" : Str), v)]))
theorem pmk_low_NothingToUndo {a : Expr} {ta : TA} {p pos : Pos} {k : Nat} (T : PySem.ErrNothingToUndo.LowTxt X.K X.mg C fI) (hr : Room k X.A) (ha : PA X [a] ta) (hg : Gl X "NothingToUndo" := by rfl)
    (he : starEach (a :: []) X.env = (false, eval a X.env) :: starEach [] X.env := by rfl) (hpl : (backTo pos (starEach [] X.env)).any (·.1) = false := by rfl) :
    PMk X (.Call (.Name "NothingToUndo" p) [a] [] pos) (tMkLow_NothingToUndo C ta) := by
  intro pins s σ H Q I h
  refine wpAny_Call_Name_kw (ld_glob I hg T.gC ?_)
  refine PySem.W.callWith_K (h₀ := X.base) I.ok.mod.kin T.kC (thn (ha.run pos pins s σ H _ I h) fun us s1 hh => ?_) he hpl
  obtain ⟨vs, H1, I1, r1, v, ev, q1⟩ := hh
  subst ev
  refine ⟨I1.kIn, ?_⟩
  cases r1 with
  | cons rv rn =>
    rename_i v' us'
    cases rn
    show wpAny _ _ (call (.ref C) [v']) _ _ _
    have hlim := I1.nolimit
    obtain ⟨hp, g, dr, tk, os⟩ := s1
    refine wpAny_call (PySem.ErrNothingToUndo.low_made T I1.kIn hlim (by have := hr.dp; omega) fun h' tk' e d M => ?_)
    show MkP X pins σ Q (.ref e) ⟨h', g, dr, tk', os⟩
    obtain ⟨oe, fv, hoe, hc, hd, hdat, h1⟩ := M.obj
    have hns := M.ns
    obtain ⟨G', g1, g2⟩ := restrict h' fun b => decide (b ≠ e)
    have gk : ∀ b, b ≠ e → G'.get? b = h'.get? b := fun b hb => g1 b (decide_eq_true hb)
    have ge : G'.get? e = none := g2 e (by simp)
    have old : ∀ b o, hp.get? b = some o → G'.get? b = some o := fun b o q => (gk b (Nat.ne_of_lt (Nat.lt_of_lt_of_le (Heap.lt_size q) M.new))).trans (M.keep b o q)
    have ob : ObjOk X.prog X.w (upd H1 d (.xd [(("name" : Str), v)])) G' d (.xd [(("name" : Str), v)]) :=
      ⟨_, hns.at (fun o q => (gk d M.dne).trans q), fun f => relO_low_NothingToUndo rv f⟩
    have J : Inv X pins σ (upd H1 d (.xd [(("name" : Str), v)])) ⟨G', g, dr, tk', os⟩ := I1.laid (t' := tk') old M.dbig ob
    refine ⟨e, oe, fv, ⟨G', g, dr, tk', os⟩, _, .ref C, some d, rfl, J, fun b o q => ?_, ge, hoe, ⟨hc, hd⟩, hdat, h1, ?_, rfl, I1.bare, raises_own T.exC T.tyC, q1 d (I1.hok.fresh M.dbig)⟩
    · by_cases hb : b = e
      · have q' : G'.get? b = some o := q
        rw [hb, ge] at q'; cases q'
      · exact (gk b hb).symm.trans q
    · rw [upd_ne (Ne.symm M.dne)]
      exact I1.hok.fresh M.new
/-- raise Low(e) -/
def tRaiseLow_NothingToUndo (C : Addr) (W : WX) (ta : TA) : TS := fun _ σ H => tMkLow_NothingToUndo C ta σ H fun cls d H' => W cls d σ H'
theorem ps_raiseLow_NothingToUndo {a : Expr} {ta : TA} {W : WX} {p pos pos2 : Pos} {k : Nat} (hc : X.calm = true) (T : PySem.ErrNothingToUndo.LowTxt X.K X.mg C fI) (hr : Room k X.A) (tk : Takes X W) (ha : PA X [a] ta) (hg : Gl X "NothingToUndo" := by rfl)
    (he : starEach (a :: []) X.env = (false, eval a X.env) :: starEach [] X.env := by rfl) (hpl : (backTo pos (starEach [] X.env)).any (·.1) = false := by rfl) :
    PS X (.Raise (some (.Call (.Name "NothingToUndo" p) [a] [] pos)) none pos2) (tRaiseLow_NothingToUndo C W ta) := ps_raise hc tk (pmk_low_NothingToUndo T hr ha hg he hpl)
/-- C(f = e).f -/
theorem pe_namk_NothingToUndo {e : Expr} {te : TE} {p kp pos pos2 : Pos} {k : Nat} (T : PySem.ErrNothingToUndo.LowTxt X.K X.mg C fI) (hr : Room k X.A) (he : PE X e te) (hg : Gl X "NothingToUndo" := by rfl)
    (hall : (backToKw pos (keywordEach [⟨some "name", e, kp⟩] X.env)).all (·.1.isSome) = true := by rfl) (hks : (backToKw pos (keywordEach [⟨some "name", e, kp⟩] X.env)).filterMap (·.1) = [("name" : Str)] := by rfl)
    (hpl : ((backTo pos (starEach [] X.env)).any (·.1) || (backToKw pos (keywordEach [⟨some "name", e, kp⟩] X.env)).any (·.1.isNone)) = false := by rfl)
    (hb : attributeBase (.Call (.Name "NothingToUndo" p) [] [⟨some "name", e, kp⟩] pos) "name" X.env (eval (.Call (.Name "NothingToUndo" p) [] [⟨some "name", e, kp⟩] pos) X.env) = eval (.Call (.Name "NothingToUndo" p) [] [⟨some "name", e, kp⟩] pos) X.env := by rfl) :
    PE X (.Attribute (.Call (.Name "NothingToUndo" p) [] [⟨some "name", e, kp⟩] pos) "name" pos2) te := by
  refine ⟨fun pins s σ H Q I h => ?_⟩
  refine attr_of hb ?_
  refine wpAny_Call_Name_kw (ld_glob I hg T.gC ?_)
  refine PySem.W.callWith_KW0 (h₀ := X.base) I.ok.mod.kin T.kC hall (thn ((pk_one he).run pos pins s σ H (fun zs H2 => match zs with | [v] => Q v H2 | _ => False) I h) fun us s1 hh => ?_) hpl
  obtain ⟨vs, H1, I1, r1, q1⟩ := hh
  refine ⟨I1.kIn, ?_⟩
  rw [hks]
  match vs, us, r1, q1 with
  | [v], [v'], .cons rv .nil, q1 =>
    have hlim := I1.nolimit
    obtain ⟨hp, g, dr, tk, os⟩ := s1
    refine wpAny_call (PySem.ErrNothingToUndo.low_madeK T I1.kIn hlim (by have := hr.dp; omega) fun h' tk' e d M => ?_)
    show wpAny _ _ (getAttr (.ref e) "name" true) _ _ ⟨h', g, dr, tk', os⟩
    obtain ⟨oe, fv, hoe, hc, hd, hdat, h1⟩ := M.obj
    obtain ⟨od, hod, hl⟩ := lookIn_ns M.ns
    have J : PySem.W.InstAt h' e oe C (some od) := ⟨hoe, hc, by unfold PySem.W.notCls; rw [hdat] <;> rfl, by rw [hd]; exact hod⟩
    have I2 : Inv X pins σ H1 ⟨h', g, dr, tk', os⟩ := I1.kept (t' := tk') M.keep
    exact HandSPX.exc_get I2.kIn J T.ga T.gg T.exC (PySem.W.findObj_own T.hdC T.noN rfl (by rw [hl, if_pos rfl])) (handed_of rv) ⟨v, H1, I2.tok _, rv, q1⟩
end
end L2
set_option maxHeartbeats 4000000
namespace Mp
open PySem L2 PyProof.Rows
variable [TabsW] [GdW]
def top (i : Nat) : Stmt := PySem.Challenge.pw_risingday_k99_errors_and_wrong_kinds.main.body.getD i (.Pass ⟨0, 0, 0, 0⟩)
section
variable {P : Program} {w : World} {K : PySem.W.Frag} {mg : Str → Option Value} {base : Heap}
def cf_part : List Str := ["BadPart"]
def cf_number : List Str := ["BadNumber"]
def cf_index : List Str := ["BadIndex", "BadErrand", "BadTiding", "BadMenu", "BadDeed"]
def cf_name : List Str := ["BadName", "BadOrder", "NothingToUndo"]
def cf_key : List Str := ["BadKey", "Promised", "Fixed"]
def cf_pair : List Str := ["NoWay"]
def cf_ring : List Str := ["Ring"]
def cf_thing : List Str := ["BadThing"]
def cf_word : List Str := ["NotSo"]
def cf_reason : List Str := ["BadPaper"]
def cf_line : List Str := ["BadText"]
def cf_limit : List Str := ["TooMany"]
def tab_all : List Str := ["BadPart", "BadNumber", "BadIndex", "BadName", "BadKey", "BadErrand", "BadOrder", "NoWay", "Ring", "BadThing", "NotSo", "BadPaper", "BadTiding", "BadMenu", "BadText", "BadDeed", "Promised", "Fixed", "TooMany", "NothingToUndo"]
def tab_BadPart : List (Str × Bool) := [("BadPart", true), ("BadNumber", false), ("BadIndex", false), ("BadName", false), ("BadKey", false), ("BadErrand", false), ("BadOrder", false), ("NoWay", false), ("Ring", false), ("BadThing", false), ("NotSo", false), ("BadPaper", false), ("BadTiding", false), ("BadMenu", false), ("BadText", false), ("BadDeed", false), ("Promised", false), ("Fixed", false), ("TooMany", false), ("NothingToUndo", false)]
def tab_BadNumber : List (Str × Bool) := [("BadPart", false), ("BadNumber", true), ("BadIndex", false), ("BadName", false), ("BadKey", false), ("BadErrand", false), ("BadOrder", false), ("NoWay", false), ("Ring", false), ("BadThing", false), ("NotSo", false), ("BadPaper", false), ("BadTiding", false), ("BadMenu", false), ("BadText", false), ("BadDeed", false), ("Promised", false), ("Fixed", false), ("TooMany", false), ("NothingToUndo", false)]
def tab_BadIndex : List (Str × Bool) := [("BadPart", false), ("BadNumber", false), ("BadIndex", true), ("BadName", false), ("BadKey", false), ("BadErrand", false), ("BadOrder", false), ("NoWay", false), ("Ring", false), ("BadThing", false), ("NotSo", false), ("BadPaper", false), ("BadTiding", false), ("BadMenu", false), ("BadText", false), ("BadDeed", false), ("Promised", false), ("Fixed", false), ("TooMany", false), ("NothingToUndo", false)]
def tab_BadName : List (Str × Bool) := [("BadPart", false), ("BadNumber", false), ("BadIndex", false), ("BadName", true), ("BadKey", false), ("BadErrand", false), ("BadOrder", false), ("NoWay", false), ("Ring", false), ("BadThing", false), ("NotSo", false), ("BadPaper", false), ("BadTiding", false), ("BadMenu", false), ("BadText", false), ("BadDeed", false), ("Promised", false), ("Fixed", false), ("TooMany", false), ("NothingToUndo", false)]
def tab_BadKey : List (Str × Bool) := [("BadPart", false), ("BadNumber", false), ("BadIndex", false), ("BadName", false), ("BadKey", true), ("BadErrand", false), ("BadOrder", false), ("NoWay", false), ("Ring", false), ("BadThing", false), ("NotSo", false), ("BadPaper", false), ("BadTiding", false), ("BadMenu", false), ("BadText", false), ("BadDeed", false), ("Promised", false), ("Fixed", false), ("TooMany", false), ("NothingToUndo", false)]
def tab_BadErrand : List (Str × Bool) := [("BadPart", false), ("BadNumber", false), ("BadIndex", false), ("BadName", false), ("BadKey", false), ("BadErrand", true), ("BadOrder", false), ("NoWay", false), ("Ring", false), ("BadThing", false), ("NotSo", false), ("BadPaper", false), ("BadTiding", false), ("BadMenu", false), ("BadText", false), ("BadDeed", false), ("Promised", false), ("Fixed", false), ("TooMany", false), ("NothingToUndo", false)]
def tab_BadOrder : List (Str × Bool) := [("BadPart", false), ("BadNumber", false), ("BadIndex", false), ("BadName", false), ("BadKey", false), ("BadErrand", false), ("BadOrder", true), ("NoWay", false), ("Ring", false), ("BadThing", false), ("NotSo", false), ("BadPaper", false), ("BadTiding", false), ("BadMenu", false), ("BadText", false), ("BadDeed", false), ("Promised", false), ("Fixed", false), ("TooMany", false), ("NothingToUndo", false)]
def tab_NoWay : List (Str × Bool) := [("BadPart", false), ("BadNumber", false), ("BadIndex", false), ("BadName", false), ("BadKey", false), ("BadErrand", false), ("BadOrder", false), ("NoWay", true), ("Ring", false), ("BadThing", false), ("NotSo", false), ("BadPaper", false), ("BadTiding", false), ("BadMenu", false), ("BadText", false), ("BadDeed", false), ("Promised", false), ("Fixed", false), ("TooMany", false), ("NothingToUndo", false)]
def tab_Ring : List (Str × Bool) := [("BadPart", false), ("BadNumber", false), ("BadIndex", false), ("BadName", false), ("BadKey", false), ("BadErrand", false), ("BadOrder", false), ("NoWay", false), ("Ring", true), ("BadThing", false), ("NotSo", false), ("BadPaper", false), ("BadTiding", false), ("BadMenu", false), ("BadText", false), ("BadDeed", false), ("Promised", false), ("Fixed", false), ("TooMany", false), ("NothingToUndo", false)]
def tab_BadThing : List (Str × Bool) := [("BadPart", false), ("BadNumber", false), ("BadIndex", false), ("BadName", false), ("BadKey", false), ("BadErrand", false), ("BadOrder", false), ("NoWay", false), ("Ring", false), ("BadThing", true), ("NotSo", false), ("BadPaper", false), ("BadTiding", false), ("BadMenu", false), ("BadText", false), ("BadDeed", false), ("Promised", false), ("Fixed", false), ("TooMany", false), ("NothingToUndo", false)]
def tab_NotSo : List (Str × Bool) := [("BadPart", false), ("BadNumber", false), ("BadIndex", false), ("BadName", false), ("BadKey", false), ("BadErrand", false), ("BadOrder", false), ("NoWay", false), ("Ring", false), ("BadThing", false), ("NotSo", true), ("BadPaper", false), ("BadTiding", false), ("BadMenu", false), ("BadText", false), ("BadDeed", false), ("Promised", false), ("Fixed", false), ("TooMany", false), ("NothingToUndo", false)]
def tab_BadPaper : List (Str × Bool) := [("BadPart", false), ("BadNumber", false), ("BadIndex", false), ("BadName", false), ("BadKey", false), ("BadErrand", false), ("BadOrder", false), ("NoWay", false), ("Ring", false), ("BadThing", false), ("NotSo", false), ("BadPaper", true), ("BadTiding", false), ("BadMenu", false), ("BadText", false), ("BadDeed", false), ("Promised", false), ("Fixed", false), ("TooMany", false), ("NothingToUndo", false)]
def tab_BadTiding : List (Str × Bool) := [("BadPart", false), ("BadNumber", false), ("BadIndex", false), ("BadName", false), ("BadKey", false), ("BadErrand", false), ("BadOrder", false), ("NoWay", false), ("Ring", false), ("BadThing", false), ("NotSo", false), ("BadPaper", false), ("BadTiding", true), ("BadMenu", false), ("BadText", false), ("BadDeed", false), ("Promised", false), ("Fixed", false), ("TooMany", false), ("NothingToUndo", false)]
def tab_BadMenu : List (Str × Bool) := [("BadPart", false), ("BadNumber", false), ("BadIndex", false), ("BadName", false), ("BadKey", false), ("BadErrand", false), ("BadOrder", false), ("NoWay", false), ("Ring", false), ("BadThing", false), ("NotSo", false), ("BadPaper", false), ("BadTiding", false), ("BadMenu", true), ("BadText", false), ("BadDeed", false), ("Promised", false), ("Fixed", false), ("TooMany", false), ("NothingToUndo", false)]
def tab_BadText : List (Str × Bool) := [("BadPart", false), ("BadNumber", false), ("BadIndex", false), ("BadName", false), ("BadKey", false), ("BadErrand", false), ("BadOrder", false), ("NoWay", false), ("Ring", false), ("BadThing", false), ("NotSo", false), ("BadPaper", false), ("BadTiding", false), ("BadMenu", false), ("BadText", true), ("BadDeed", false), ("Promised", false), ("Fixed", false), ("TooMany", false), ("NothingToUndo", false)]
def tab_BadDeed : List (Str × Bool) := [("BadPart", false), ("BadNumber", false), ("BadIndex", false), ("BadName", false), ("BadKey", false), ("BadErrand", false), ("BadOrder", false), ("NoWay", false), ("Ring", false), ("BadThing", false), ("NotSo", false), ("BadPaper", false), ("BadTiding", false), ("BadMenu", false), ("BadText", false), ("BadDeed", true), ("Promised", false), ("Fixed", false), ("TooMany", false), ("NothingToUndo", false)]
def tab_Promised : List (Str × Bool) := [("BadPart", false), ("BadNumber", false), ("BadIndex", false), ("BadName", false), ("BadKey", false), ("BadErrand", false), ("BadOrder", false), ("NoWay", false), ("Ring", false), ("BadThing", false), ("NotSo", false), ("BadPaper", false), ("BadTiding", false), ("BadMenu", false), ("BadText", false), ("BadDeed", false), ("Promised", true), ("Fixed", false), ("TooMany", false), ("NothingToUndo", false)]
def tab_Fixed : List (Str × Bool) := [("BadPart", false), ("BadNumber", false), ("BadIndex", false), ("BadName", false), ("BadKey", false), ("BadErrand", false), ("BadOrder", false), ("NoWay", false), ("Ring", false), ("BadThing", false), ("NotSo", false), ("BadPaper", false), ("BadTiding", false), ("BadMenu", false), ("BadText", false), ("BadDeed", false), ("Promised", false), ("Fixed", true), ("TooMany", false), ("NothingToUndo", false)]
def tab_DayError : List (Str × Bool) := [("BadPart", true), ("BadNumber", true), ("BadIndex", true), ("BadName", true), ("BadKey", true), ("BadErrand", true), ("BadOrder", true), ("NoWay", true), ("Ring", true), ("BadThing", true), ("NotSo", true), ("BadPaper", true), ("BadTiding", true), ("BadMenu", true), ("BadText", true), ("BadDeed", true), ("Promised", true), ("Fixed", true), ("TooMany", false), ("NothingToUndo", false)]
def tab_ValueError : List (Str × Bool) := [("BadPart", true), ("BadNumber", true), ("BadIndex", true), ("BadName", true), ("BadKey", true), ("BadErrand", true), ("BadOrder", true), ("NoWay", true), ("Ring", true), ("BadThing", true), ("NotSo", true), ("BadPaper", true), ("BadTiding", true), ("BadMenu", true), ("BadText", true), ("BadDeed", true), ("Promised", true), ("Fixed", true), ("TooMany", false), ("NothingToUndo", false)]
def b__law_start : List ST := [.asg (.name 1) (.c (.int 0)), .if_ (.cmp .gt (.blt .len [.v 0]) (.c (.int 0))) [.asg (.name 1) (.ix (.v 0) (.c (.int 0)))] [], .retl (.lst [.blt .abs [.blt .int [.v 1]], .blt .int [.cmp .ge (.blt .abs [.blt .int [.v 1]]) (.bin .pow (.c (.int 10)) (.c (.int 18)))], .c (.int 1), .c (.int 0)])]
def g__law_start : Ctx := ⟨[], [], [], [], []⟩
def f__law_start : Fn := ⟨1, none, semBF g__law_start 2 b__law_start⟩
theorem sc__law_start : FnScope ["_law_script", "_law_first"] ["_law_script"] (defScope (top 23)) := ⟨rfl, rfl, rfl, by decide +kernel, rfl, by decide +kernel, by decide +kernel⟩
theorem ok__law_start {f : Addr} {fd : FuncData} (F : Fun K "_law_start" "_law_start" (top 23) f fd) (z_len : mg "len" = none) (z_abs : mg "abs" = none) (z_int : mg "int" = none) :
    FnOk P w K mg base (L2.CX P w) 1 f fd ["_law_script"] (spFr K 1 (semBF g__law_start 2 b__law_start)) :=
  have S := sc__law_start
  fn_bodyF F S (by decide) fun cdv A outer s H E hr =>
    (ss_cons (st_asg (ps_set (i := 1) S.nd rfl (by first | exact .inl rfl | exact .inr rfl) xi rfl (by first | exact .inl rfl | exact .inr rfl))) (ss_cons (st_if (y_gt (b_len z_len rfl (e_v (i := 0) rfl (by first | exact .inl rfl | exact .inr (.inl rfl) | exact .inr (.inr rfl)) (by decide) (by decide)) rfl) xi) (ss_cons (st_asg (ps_set (i := 1) S.nd rfl (by first | exact .inl rfl | exact .inr rfl) (e_ix (e_v (i := 0) rfl (by first | exact .inl rfl | exact .inr (.inl rfl) | exact .inr (.inr rfl)) (by decide) (by decide)) xi (fun _ _ => rfl)) rfl (by first | exact .inl rfl | exact .inr rfl))) ss_nil) ss_nil) (ss_cons (st_retl (l_lst (as_cons (b_abs z_abs rfl (b_int z_int rfl (e_v (i := 1) rfl (by first | exact .inl rfl | exact .inr (.inl rfl) | exact .inr (.inr rfl)) (by decide) (by decide)) rfl) rfl) (as_cons (b_int z_int rfl (x_ge (b_abs z_abs rfl (b_int z_int rfl (e_v (i := 1) rfl (by first | exact .inl rfl | exact .inr (.inl rfl) | exact .inr (.inr rfl)) (by decide) (by decide)) rfl) rfl) (x_pow xi xi)) rfl) (as_cons xi (as_cons xi as_nil rfl) rfl) rfl) rfl))) ss_nil)))
def b__law_draw : List ST := [.six 1 (.c (.int 3)) (.bin .add (.ix (.v 1) (.c (.int 3))) (.c (.int 1))), .if_ (.and_ (.cmp .eq (.ix (.v 1) (.c (.int 1))) (.c (.int 1))) (.cmp .gt (.ix (.v 1) (.c (.int 0))) (.c (.int 0)))) [.asg (.name 5) (.bin .mod (.blt .int [.ix (.v 1) (.c (.int 0))]) (.v 2)), .six 1 (.c (.int 0)) (.bin .fdiv (.ix (.v 1) (.c (.int 0))) (.v 2)), .ret (.v 5)] [], .six 1 (.c (.int 1)) (.c (.int 0)), .asg (.name 3) (.c (.int 0)), .if_ (.cmp .gt (.blt .len [.v 0]) (.c (.int 0))) [.asg (.name 3) (.ix (.v 0) (.bin .mod (.blt .int [.ix (.v 1) (.c (.int 2))]) (.blt .len [.v 0])))] [], .six 1 (.c (.int 2)) (.bin .add (.ix (.v 1) (.c (.int 2))) (.c (.int 1))), .asg (.name 4) (.bin .mul (.bin .mod (.blt .int [.ix (.v 1) (.c (.int 0))]) (.c (.int 2147483647))) (.c (.int 48271))), .asg (.name 4) (.bin .add (.bin .add (.bin .add (.v 4) (.bin .mod (.blt .int [.v 3]) (.c (.int 2147483629)))) (.bin .mul (.c (.int 7)) (.ix (.v 1) (.c (.int 3))))) (.c (.int 11))), .six 1 (.c (.int 0)) (.bin .mod (.blt .int [.v 4]) (.c (.int 2147483647))), .asg (.name 4) (.bin .mod (.blt .int [.bin .add (.bin .mul (.ix (.v 1) (.c (.int 0))) (.c (.int 69621))) (.ix (.v 1) (.c (.int 3)))]) (.c (.int 2147483629))), .ret (.bin .mod (.blt .int [.bin .fdiv (.v 4) (.c (.int 13))]) (.v 2))]
def g__law_draw : Ctx := ⟨[], [], [], [], []⟩
def f__law_draw : Fn := ⟨3, some 1, semB g__law_draw 6 (some 1) b__law_draw⟩
theorem sc__law_draw : FnScope ["_law_script", "_law_state", "_law_many", "_law_cell", "_law_mixed", "_law_told"] ["_law_script", "_law_state", "_law_many"] (defScope (top 24)) := ⟨rfl, rfl, rfl, by decide +kernel, rfl, by decide +kernel, by decide +kernel⟩
theorem ok__law_draw {f : Addr} {fd : FuncData} (F : Fun K "_law_draw" "_law_draw" (top 24) f fd) (z_int : mg "int" = none) (z_len : mg "len" = none) :
    FnOk P w K mg base (L2.CX P w) 1 f fd ["_law_script", "_law_state", "_law_many"] (spF K 3 (some 1) (semB g__law_draw 6 (some 1) b__law_draw)) :=
  have S := sc__law_draw
  fn_body F S (by decide) fun cdv A outer s H E hr =>
    (ss_cons (st_six (ps_asg (x_add (e_ix (e_v (i := 1) rfl (by first | exact .inl rfl | exact .inr (.inl rfl) | exact .inr (.inr rfl)) (by decide) (by decide)) xi (fun _ _ => rfl)) xi) (pg_sub (pe_var (i := 1) rfl (by first | exact .inl rfl | exact .inr (.inl rfl) | exact .inr (.inr rfl))) xi set_list (fun _ => rfl)) rfl rfl rfl)) (ss_cons (st_if (PW.pt (w_and (y_eq (hu64 hr) (e_ix (e_v (i := 1) rfl (by first | exact .inl rfl | exact .inr (.inl rfl) | exact .inr (.inr rfl)) (by decide) (by decide)) xi (fun _ _ => rfl)) xi) (w_and1 (y_gt (e_ix (e_v (i := 1) rfl (by first | exact .inl rfl | exact .inr (.inl rfl) | exact .inr (.inr rfl)) (by decide) (by decide)) xi (fun _ _ => rfl)) xi)))) (ss_cons (st_asg (ps_set (i := 5) S.nd rfl (by first | exact .inl rfl | exact .inr rfl) (x_mod (b_int z_int rfl (e_ix (e_v (i := 1) rfl (by first | exact .inl rfl | exact .inr (.inl rfl) | exact .inr (.inr rfl)) (by decide) (by decide)) xi (fun _ _ => rfl)) rfl) (e_v (i := 2) rfl (by first | exact .inl rfl | exact .inr (.inl rfl) | exact .inr (.inr rfl)) (by decide) (by decide))) rfl (by first | exact .inl rfl | exact .inr rfl))) (ss_cons (st_six (ps_asg (x_fdiv (e_ix (e_v (i := 1) rfl (by first | exact .inl rfl | exact .inr (.inl rfl) | exact .inr (.inr rfl)) (by decide) (by decide)) xi (fun _ _ => rfl)) (e_v (i := 2) rfl (by first | exact .inl rfl | exact .inr (.inl rfl) | exact .inr (.inr rfl)) (by decide) (by decide))) (pg_sub (pe_var (i := 1) rfl (by first | exact .inl rfl | exact .inr (.inl rfl) | exact .inr (.inr rfl))) xi set_list (fun _ => rfl)) rfl rfl rfl)) (ss_cons (st_ret (e_v (i := 5) rfl (by first | exact .inl rfl | exact .inr (.inl rfl) | exact .inr (.inr rfl)) (by decide) (by decide))) ss_nil))) ss_nil) (ss_cons (st_six (ps_asg xi (pg_sub (pe_var (i := 1) rfl (by first | exact .inl rfl | exact .inr (.inl rfl) | exact .inr (.inr rfl))) xi set_list (fun _ => rfl)) rfl rfl rfl)) (ss_cons (st_asg (ps_set (i := 3) S.nd rfl (by first | exact .inl rfl | exact .inr rfl) xi rfl (by first | exact .inl rfl | exact .inr rfl))) (ss_cons (st_if (y_gt (b_len z_len rfl (e_v (i := 0) rfl (by first | exact .inl rfl | exact .inr (.inl rfl) | exact .inr (.inr rfl)) (by decide) (by decide)) rfl) xi) (ss_cons (st_asg (ps_set (i := 3) S.nd rfl (by first | exact .inl rfl | exact .inr rfl) (e_ix (e_v (i := 0) rfl (by first | exact .inl rfl | exact .inr (.inl rfl) | exact .inr (.inr rfl)) (by decide) (by decide)) (x_mod (b_int z_int rfl (e_ix (e_v (i := 1) rfl (by first | exact .inl rfl | exact .inr (.inl rfl) | exact .inr (.inr rfl)) (by decide) (by decide)) xi (fun _ _ => rfl)) rfl) (b_len z_len rfl (e_v (i := 0) rfl (by first | exact .inl rfl | exact .inr (.inl rfl) | exact .inr (.inr rfl)) (by decide) (by decide)) rfl)) (fun _ _ => rfl)) rfl (by first | exact .inl rfl | exact .inr rfl))) ss_nil) ss_nil) (ss_cons (st_six (ps_asg (x_add (e_ix (e_v (i := 1) rfl (by first | exact .inl rfl | exact .inr (.inl rfl) | exact .inr (.inr rfl)) (by decide) (by decide)) xi (fun _ _ => rfl)) xi) (pg_sub (pe_var (i := 1) rfl (by first | exact .inl rfl | exact .inr (.inl rfl) | exact .inr (.inr rfl))) xi set_list (fun _ => rfl)) rfl rfl rfl)) (ss_cons (st_asg (ps_set (i := 4) S.nd rfl (by first | exact .inl rfl | exact .inr rfl) (x_mul (x_mod (b_int z_int rfl (e_ix (e_v (i := 1) rfl (by first | exact .inl rfl | exact .inr (.inl rfl) | exact .inr (.inr rfl)) (by decide) (by decide)) xi (fun _ _ => rfl)) rfl) xi) xi) rfl (by first | exact .inl rfl | exact .inr rfl))) (ss_cons (st_asg (ps_set (i := 4) S.nd rfl (by first | exact .inl rfl | exact .inr rfl) (x_add (x_add (x_add (e_v (i := 4) rfl (by first | exact .inl rfl | exact .inr (.inl rfl) | exact .inr (.inr rfl)) (by decide) (by decide)) (x_mod (b_int z_int rfl (e_v (i := 3) rfl (by first | exact .inl rfl | exact .inr (.inl rfl) | exact .inr (.inr rfl)) (by decide) (by decide)) rfl) xi)) (x_mul xi (e_ix (e_v (i := 1) rfl (by first | exact .inl rfl | exact .inr (.inl rfl) | exact .inr (.inr rfl)) (by decide) (by decide)) xi (fun _ _ => rfl)))) xi) rfl (by first | exact .inl rfl | exact .inr rfl))) (ss_cons (st_six (ps_asg (x_mod (b_int z_int rfl (e_v (i := 4) rfl (by first | exact .inl rfl | exact .inr (.inl rfl) | exact .inr (.inr rfl)) (by decide) (by decide)) rfl) xi) (pg_sub (pe_var (i := 1) rfl (by first | exact .inl rfl | exact .inr (.inl rfl) | exact .inr (.inr rfl))) xi set_list (fun _ => rfl)) rfl rfl rfl)) (ss_cons (st_asg (ps_set (i := 4) S.nd rfl (by first | exact .inl rfl | exact .inr rfl) (x_mod (b_int z_int rfl (x_add (x_mul (e_ix (e_v (i := 1) rfl (by first | exact .inl rfl | exact .inr (.inl rfl) | exact .inr (.inr rfl)) (by decide) (by decide)) xi (fun _ _ => rfl)) xi) (e_ix (e_v (i := 1) rfl (by first | exact .inl rfl | exact .inr (.inl rfl) | exact .inr (.inr rfl)) (by decide) (by decide)) xi (fun _ _ => rfl))) rfl) xi) rfl (by first | exact .inl rfl | exact .inr rfl))) (ss_cons (st_ret (x_mod (b_int z_int rfl (x_fdiv (e_v (i := 4) rfl (by first | exact .inl rfl | exact .inr (.inl rfl) | exact .inr (.inr rfl)) (by decide) (by decide)) xi) rfl) (e_v (i := 2) rfl (by first | exact .inl rfl | exact .inr (.inl rfl) | exact .inr (.inr rfl)) (by decide) (by decide)))) ss_nil)))))))))))
def b__law_throw_other : List ST := [.if_ (.cmp .eq (.v 0) (.c (.int 9))) [.raise "BadThing" "thing" (.v 1)] [], .if_ (.cmp .eq (.v 0) (.c (.int 10))) [.raise "NotSo" "word" (.v 1)] [], .if_ (.cmp .eq (.v 0) (.c (.int 11))) [.raise "BadPaper" "reason" (.v 1)] [], .if_ (.cmp .eq (.v 0) (.c (.int 12))) [.raise "BadTiding" "index" (.v 1)] [], .if_ (.cmp .eq (.v 0) (.c (.int 13))) [.raise "BadMenu" "index" (.v 1)] [], .if_ (.cmp .eq (.v 0) (.c (.int 14))) [.raise "BadText" "line" (.v 1)] [], .if_ (.cmp .eq (.v 0) (.c (.int 15))) [.raise "BadDeed" "index" (.v 1)] [], .if_ (.cmp .eq (.v 0) (.c (.int 16))) [.raise "Promised" "key" (.v 1)] [], .if_ (.cmp .eq (.v 0) (.c (.int 17))) [.raise "Fixed" "key" (.v 1)] [], .if_ (.cmp .eq (.v 0) (.c (.int 18))) [.raise "TooMany" "limit" (.v 1)] [], .raise "NothingToUndo" "name" (.v 1)]
def g__law_throw_other : Ctx := ⟨[], [], [], [], []⟩
def f__law_throw_other : Fn := ⟨2, none, semB g__law_throw_other 2 none b__law_throw_other⟩
theorem sc__law_throw_other : FnScope ["_law_kind", "_law_value_here"] ["_law_kind", "_law_value_here"] (defScope (top 25)) := ⟨rfl, rfl, rfl, by decide +kernel, rfl, by decide +kernel, by decide +kernel⟩
theorem ok__law_throw_other {f : Addr} {fd : FuncData} (F : Fun K "_law_throw_other" "_law_throw_other" (top 25) f fd) {I_BadThing : Addr} (T_BadThing : PySem.ErrBadThing.LowTxt K mg (clsAt K "BadThing") I_BadThing) {I_NotSo : Addr} (T_NotSo : PySem.ErrNotSo.LowTxt K mg (clsAt K "NotSo") I_NotSo) {I_BadPaper : Addr} (T_BadPaper : PySem.ErrBadPaper.LowTxt K mg (clsAt K "BadPaper") I_BadPaper) {I_BadTiding : Addr} (T_BadTiding : PySem.ErrBadTiding.LowTxt K mg (clsAt K "BadTiding") I_BadTiding) {I_BadMenu : Addr} (T_BadMenu : PySem.ErrBadMenu.LowTxt K mg (clsAt K "BadMenu") I_BadMenu) {I_BadText : Addr} (T_BadText : PySem.ErrBadText.LowTxt K mg (clsAt K "BadText") I_BadText) {I_BadDeed : Addr} (T_BadDeed : PySem.ErrBadDeed.LowTxt K mg (clsAt K "BadDeed") I_BadDeed) {I_Promised : Addr} (T_Promised : PySem.ErrPromised.LowTxt K mg (clsAt K "Promised") I_Promised) {I_Fixed : Addr} (T_Fixed : PySem.ErrFixed.LowTxt K mg (clsAt K "Fixed") I_Fixed) {I_TooMany : Addr} (T_TooMany : PySem.ErrTooMany.LowTxt K mg (clsAt K "TooMany") I_TooMany) {I_NothingToUndo : Addr} (T_NothingToUndo : PySem.ErrNothingToUndo.LowTxt K mg (clsAt K "NothingToUndo") I_NothingToUndo) :
    FnOk P w K mg base (L2.CX P w) 1 f fd ["_law_kind", "_law_value_here"] (spF K 2 none (semB g__law_throw_other 2 none b__law_throw_other)) :=
  have S := sc__law_throw_other
  fn_body F S (by decide) fun cdv A outer s H E hr =>
    (ss_cons (st_if (y_eq (hu64 hr) (e_v (i := 0) rfl (by first | exact .inl rfl | exact .inr (.inl rfl) | exact .inr (.inr rfl)) (by decide) (by decide)) xi) (ss_cons (st_raise (ps_raiseLow_BadThing rfl T_BadThing hr.r (takes_of rfl rfl rfl rfl) (as_cons (e_v (i := 1) rfl (by first | exact .inl rfl | exact .inr (.inl rfl) | exact .inr (.inr rfl)) (by decide) (by decide)) as_nil rfl))) ss_nil) ss_nil) (ss_cons (st_if (y_eq (hu64 hr) (e_v (i := 0) rfl (by first | exact .inl rfl | exact .inr (.inl rfl) | exact .inr (.inr rfl)) (by decide) (by decide)) xi) (ss_cons (st_raise (ps_raiseLow_NotSo rfl T_NotSo hr.r (takes_of rfl rfl rfl rfl) (as_cons (e_v (i := 1) rfl (by first | exact .inl rfl | exact .inr (.inl rfl) | exact .inr (.inr rfl)) (by decide) (by decide)) as_nil rfl))) ss_nil) ss_nil) (ss_cons (st_if (y_eq (hu64 hr) (e_v (i := 0) rfl (by first | exact .inl rfl | exact .inr (.inl rfl) | exact .inr (.inr rfl)) (by decide) (by decide)) xi) (ss_cons (st_raise (ps_raiseLow_BadPaper rfl T_BadPaper hr.r (takes_of rfl rfl rfl rfl) (as_cons (e_v (i := 1) rfl (by first | exact .inl rfl | exact .inr (.inl rfl) | exact .inr (.inr rfl)) (by decide) (by decide)) as_nil rfl))) ss_nil) ss_nil) (ss_cons (st_if (y_eq (hu64 hr) (e_v (i := 0) rfl (by first | exact .inl rfl | exact .inr (.inl rfl) | exact .inr (.inr rfl)) (by decide) (by decide)) xi) (ss_cons (st_raise (ps_raiseLow_BadTiding rfl T_BadTiding hr.r (takes_of rfl rfl rfl rfl) (as_cons (e_v (i := 1) rfl (by first | exact .inl rfl | exact .inr (.inl rfl) | exact .inr (.inr rfl)) (by decide) (by decide)) as_nil rfl))) ss_nil) ss_nil) (ss_cons (st_if (y_eq (hu64 hr) (e_v (i := 0) rfl (by first | exact .inl rfl | exact .inr (.inl rfl) | exact .inr (.inr rfl)) (by decide) (by decide)) xi) (ss_cons (st_raise (ps_raiseLow_BadMenu rfl T_BadMenu hr.r (takes_of rfl rfl rfl rfl) (as_cons (e_v (i := 1) rfl (by first | exact .inl rfl | exact .inr (.inl rfl) | exact .inr (.inr rfl)) (by decide) (by decide)) as_nil rfl))) ss_nil) ss_nil) (ss_cons (st_if (y_eq (hu64 hr) (e_v (i := 0) rfl (by first | exact .inl rfl | exact .inr (.inl rfl) | exact .inr (.inr rfl)) (by decide) (by decide)) xi) (ss_cons (st_raise (ps_raiseLow_BadText rfl T_BadText hr.r (takes_of rfl rfl rfl rfl) (as_cons (e_v (i := 1) rfl (by first | exact .inl rfl | exact .inr (.inl rfl) | exact .inr (.inr rfl)) (by decide) (by decide)) as_nil rfl))) ss_nil) ss_nil) (ss_cons (st_if (y_eq (hu64 hr) (e_v (i := 0) rfl (by first | exact .inl rfl | exact .inr (.inl rfl) | exact .inr (.inr rfl)) (by decide) (by decide)) xi) (ss_cons (st_raise (ps_raiseLow_BadDeed rfl T_BadDeed hr.r (takes_of rfl rfl rfl rfl) (as_cons (e_v (i := 1) rfl (by first | exact .inl rfl | exact .inr (.inl rfl) | exact .inr (.inr rfl)) (by decide) (by decide)) as_nil rfl))) ss_nil) ss_nil) (ss_cons (st_if (y_eq (hu64 hr) (e_v (i := 0) rfl (by first | exact .inl rfl | exact .inr (.inl rfl) | exact .inr (.inr rfl)) (by decide) (by decide)) xi) (ss_cons (st_raise (ps_raiseLow_Promised rfl T_Promised hr.r (takes_of rfl rfl rfl rfl) (as_cons (e_v (i := 1) rfl (by first | exact .inl rfl | exact .inr (.inl rfl) | exact .inr (.inr rfl)) (by decide) (by decide)) as_nil rfl))) ss_nil) ss_nil) (ss_cons (st_if (y_eq (hu64 hr) (e_v (i := 0) rfl (by first | exact .inl rfl | exact .inr (.inl rfl) | exact .inr (.inr rfl)) (by decide) (by decide)) xi) (ss_cons (st_raise (ps_raiseLow_Fixed rfl T_Fixed hr.r (takes_of rfl rfl rfl rfl) (as_cons (e_v (i := 1) rfl (by first | exact .inl rfl | exact .inr (.inl rfl) | exact .inr (.inr rfl)) (by decide) (by decide)) as_nil rfl))) ss_nil) ss_nil) (ss_cons (st_if (y_eq (hu64 hr) (e_v (i := 0) rfl (by first | exact .inl rfl | exact .inr (.inl rfl) | exact .inr (.inr rfl)) (by decide) (by decide)) xi) (ss_cons (st_raise (ps_raiseLow_TooMany rfl T_TooMany hr.r (takes_of rfl rfl rfl rfl) (as_cons (e_v (i := 1) rfl (by first | exact .inl rfl | exact .inr (.inl rfl) | exact .inr (.inr rfl)) (by decide) (by decide)) as_nil rfl))) ss_nil) ss_nil) (ss_cons (st_raise (ps_raiseLow_NothingToUndo rfl T_NothingToUndo hr.r (takes_of rfl rfl rfl rfl) (as_cons (e_v (i := 1) rfl (by first | exact .inl rfl | exact .inr (.inl rfl) | exact .inr (.inr rfl)) (by decide) (by decide)) as_nil rfl))) ss_nil)))))))))))
def b__law_throw : List ST := [.if_ (.cmp .eq (.v 0) (.c (.int 0))) [.raise "BadPart" "part" (.v 1)] [], .if_ (.cmp .eq (.v 0) (.c (.int 1))) [.raise "BadNumber" "number" (.v 1)] [], .if_ (.cmp .eq (.v 0) (.c (.int 2))) [.raise "BadIndex" "index" (.v 1)] [], .if_ (.cmp .eq (.v 0) (.c (.int 3))) [.raise "BadName" "name" (.v 1)] [], .if_ (.cmp .eq (.v 0) (.c (.int 4))) [.raise "BadKey" "key" (.v 1)] [], .if_ (.cmp .eq (.v 0) (.c (.int 5))) [.raise "BadErrand" "index" (.v 1)] [], .if_ (.cmp .eq (.v 0) (.c (.int 6))) [.raise "BadOrder" "name" (.v 1)] [], .if_ (.cmp .eq (.v 0) (.c (.int 7))) [.raise "NoWay" "pair" (.v 1)] [], .if_ (.cmp .eq (.v 0) (.c (.int 8))) [.raise "Ring" "ring" (.v 1)] [], .expr (.call 0 [.v 0, .v 1])]
def g__law_throw : Ctx := ⟨[f__law_throw_other], [], [], [], []⟩
def f__law_throw : Fn := ⟨2, none, semB g__law_throw 2 none b__law_throw⟩
theorem sc__law_throw : FnScope ["_law_kind", "_law_value_here"] ["_law_kind", "_law_value_here"] (defScope (top 26)) := ⟨rfl, rfl, rfl, by decide +kernel, rfl, by decide +kernel, by decide +kernel⟩
theorem ok__law_throw {f : Addr} {fd : FuncData} (F : Fun K "_law_throw" "_law_throw" (top 26) f fd) {I_BadPart : Addr} (T_BadPart : PySem.ErrBadPart.LowTxt K mg (clsAt K "BadPart") I_BadPart) {I_BadNumber : Addr} (T_BadNumber : PySem.ErrBadNumber.LowTxt K mg (clsAt K "BadNumber") I_BadNumber) {I_BadIndex : Addr} (T_BadIndex : PySem.ErrBadIndex.LowTxt K mg (clsAt K "BadIndex") I_BadIndex) {I_BadName : Addr} (T_BadName : PySem.ErrBadName.LowTxt K mg (clsAt K "BadName") I_BadName) {I_BadKey : Addr} (T_BadKey : PySem.ErrBadKey.LowTxt K mg (clsAt K "BadKey") I_BadKey) {I_BadErrand : Addr} (T_BadErrand : PySem.ErrBadErrand.LowTxt K mg (clsAt K "BadErrand") I_BadErrand) {I_BadOrder : Addr} (T_BadOrder : PySem.ErrBadOrder.LowTxt K mg (clsAt K "BadOrder") I_BadOrder) {I_NoWay : Addr} (T_NoWay : PySem.ErrNoWay.LowTxt K mg (clsAt K "NoWay") I_NoWay) {I_Ring : Addr} (T_Ring : PySem.ErrRing.LowTxt K mg (clsAt K "Ring") I_Ring) (F__law_throw_other : FnF P w K mg base 1 "_law_throw_other" f__law_throw_other) :
    FnOk P w K mg base (L2.CX P w) 2 f fd ["_law_kind", "_law_value_here"] (spF K 2 none (semB g__law_throw 2 none b__law_throw)) :=
  have S := sc__law_throw
  fn_body F S (by decide) fun cdv A outer s H E hr =>
    (ss_cons (st_if (y_eq (hu64 hr) (e_v (i := 0) rfl (by first | exact .inl rfl | exact .inr (.inl rfl) | exact .inr (.inr rfl)) (by decide) (by decide)) xi) (ss_cons (st_raise (ps_raiseLow_BadPart rfl T_BadPart hr.r (takes_of rfl rfl rfl rfl) (as_cons (e_v (i := 1) rfl (by first | exact .inl rfl | exact .inr (.inl rfl) | exact .inr (.inr rfl)) (by decide) (by decide)) as_nil rfl))) ss_nil) ss_nil) (ss_cons (st_if (y_eq (hu64 hr) (e_v (i := 0) rfl (by first | exact .inl rfl | exact .inr (.inl rfl) | exact .inr (.inr rfl)) (by decide) (by decide)) xi) (ss_cons (st_raise (ps_raiseLow_BadNumber rfl T_BadNumber hr.r (takes_of rfl rfl rfl rfl) (as_cons (e_v (i := 1) rfl (by first | exact .inl rfl | exact .inr (.inl rfl) | exact .inr (.inr rfl)) (by decide) (by decide)) as_nil rfl))) ss_nil) ss_nil) (ss_cons (st_if (y_eq (hu64 hr) (e_v (i := 0) rfl (by first | exact .inl rfl | exact .inr (.inl rfl) | exact .inr (.inr rfl)) (by decide) (by decide)) xi) (ss_cons (st_raise (ps_raiseLow_BadIndex rfl T_BadIndex hr.r (takes_of rfl rfl rfl rfl) (as_cons (e_v (i := 1) rfl (by first | exact .inl rfl | exact .inr (.inl rfl) | exact .inr (.inr rfl)) (by decide) (by decide)) as_nil rfl))) ss_nil) ss_nil) (ss_cons (st_if (y_eq (hu64 hr) (e_v (i := 0) rfl (by first | exact .inl rfl | exact .inr (.inl rfl) | exact .inr (.inr rfl)) (by decide) (by decide)) xi) (ss_cons (st_raise (ps_raiseLow_BadName rfl T_BadName hr.r (takes_of rfl rfl rfl rfl) (as_cons (e_v (i := 1) rfl (by first | exact .inl rfl | exact .inr (.inl rfl) | exact .inr (.inr rfl)) (by decide) (by decide)) as_nil rfl))) ss_nil) ss_nil) (ss_cons (st_if (y_eq (hu64 hr) (e_v (i := 0) rfl (by first | exact .inl rfl | exact .inr (.inl rfl) | exact .inr (.inr rfl)) (by decide) (by decide)) xi) (ss_cons (st_raise (ps_raiseLow_BadKey rfl T_BadKey hr.r (takes_of rfl rfl rfl rfl) (as_cons (e_v (i := 1) rfl (by first | exact .inl rfl | exact .inr (.inl rfl) | exact .inr (.inr rfl)) (by decide) (by decide)) as_nil rfl))) ss_nil) ss_nil) (ss_cons (st_if (y_eq (hu64 hr) (e_v (i := 0) rfl (by first | exact .inl rfl | exact .inr (.inl rfl) | exact .inr (.inr rfl)) (by decide) (by decide)) xi) (ss_cons (st_raise (ps_raiseLow_BadErrand rfl T_BadErrand hr.r (takes_of rfl rfl rfl rfl) (as_cons (e_v (i := 1) rfl (by first | exact .inl rfl | exact .inr (.inl rfl) | exact .inr (.inr rfl)) (by decide) (by decide)) as_nil rfl))) ss_nil) ss_nil) (ss_cons (st_if (y_eq (hu64 hr) (e_v (i := 0) rfl (by first | exact .inl rfl | exact .inr (.inl rfl) | exact .inr (.inr rfl)) (by decide) (by decide)) xi) (ss_cons (st_raise (ps_raiseLow_BadOrder rfl T_BadOrder hr.r (takes_of rfl rfl rfl rfl) (as_cons (e_v (i := 1) rfl (by first | exact .inl rfl | exact .inr (.inl rfl) | exact .inr (.inr rfl)) (by decide) (by decide)) as_nil rfl))) ss_nil) ss_nil) (ss_cons (st_if (y_eq (hu64 hr) (e_v (i := 0) rfl (by first | exact .inl rfl | exact .inr (.inl rfl) | exact .inr (.inr rfl)) (by decide) (by decide)) xi) (ss_cons (st_raise (ps_raiseLow_NoWay rfl T_NoWay hr.r (takes_of rfl rfl rfl rfl) (as_cons (e_v (i := 1) rfl (by first | exact .inl rfl | exact .inr (.inl rfl) | exact .inr (.inr rfl)) (by decide) (by decide)) as_nil rfl))) ss_nil) ss_nil) (ss_cons (st_if (y_eq (hu64 hr) (e_v (i := 0) rfl (by first | exact .inl rfl | exact .inr (.inl rfl) | exact .inr (.inr rfl)) (by decide) (by decide)) xi) (ss_cons (st_raise (ps_raiseLow_Ring rfl T_Ring hr.r (takes_of rfl rfl rfl rfl) (as_cons (e_v (i := 1) rfl (by first | exact .inl rfl | exact .inr (.inl rfl) | exact .inr (.inr rfl)) (by decide) (by decide)) as_nil rfl))) ss_nil) ss_nil) (ss_cons (st_expr (e_call F__law_throw_other rfl (hr.mono (by decide)) (takes_of rfl rfl rfl rfl) rfl (aa_cons (e_v (i := 0) rfl (by first | exact .inl rfl | exact .inr (.inl rfl) | exact .inr (.inr rfl)) (by decide) (by decide)) (aa_cons (e_v (i := 1) rfl (by first | exact .inl rfl | exact .inr (.inl rfl) | exact .inr (.inr rfl)) (by decide) (by decide)) aa_nil rfl) rfl) rfl) rfl) ss_nil))))))))))
def b__law_named_other : List ST := [.if_ (.cmp .eq (.v 0) (.c (.int 9))) [.ret (.v 1)] [], .if_ (.cmp .eq (.v 0) (.c (.int 10))) [.ret (.v 1)] [], .if_ (.cmp .eq (.v 0) (.c (.int 11))) [.ret (.v 1)] [], .if_ (.cmp .eq (.v 0) (.c (.int 12))) [.ret (.v 1)] [], .if_ (.cmp .eq (.v 0) (.c (.int 13))) [.ret (.v 1)] [], .if_ (.cmp .eq (.v 0) (.c (.int 14))) [.ret (.v 1)] [], .if_ (.cmp .eq (.v 0) (.c (.int 15))) [.ret (.v 1)] [], .if_ (.cmp .eq (.v 0) (.c (.int 16))) [.ret (.v 1)] [], .if_ (.cmp .eq (.v 0) (.c (.int 17))) [.ret (.v 1)] [], .if_ (.cmp .eq (.v 0) (.c (.int 18))) [.ret (.v 1)] [], .ret (.v 1)]
def g__law_named_other : Ctx := ⟨[], [], [], [], []⟩
def f__law_named_other : Fn := ⟨2, none, semB g__law_named_other 2 none b__law_named_other⟩
theorem sc__law_named_other : FnScope ["_law_kind", "_law_value_here"] ["_law_kind", "_law_value_here"] (defScope (top 27)) := ⟨rfl, rfl, rfl, by decide +kernel, rfl, by decide +kernel, by decide +kernel⟩
theorem ok__law_named_other {f : Addr} {fd : FuncData} (F : Fun K "_law_named_other" "_law_named_other" (top 27) f fd) {I_BadThing : Addr} (T_BadThing : PySem.ErrBadThing.LowTxt K mg (clsAt K "BadThing") I_BadThing) {I_NotSo : Addr} (T_NotSo : PySem.ErrNotSo.LowTxt K mg (clsAt K "NotSo") I_NotSo) {I_BadPaper : Addr} (T_BadPaper : PySem.ErrBadPaper.LowTxt K mg (clsAt K "BadPaper") I_BadPaper) {I_BadTiding : Addr} (T_BadTiding : PySem.ErrBadTiding.LowTxt K mg (clsAt K "BadTiding") I_BadTiding) {I_BadMenu : Addr} (T_BadMenu : PySem.ErrBadMenu.LowTxt K mg (clsAt K "BadMenu") I_BadMenu) {I_BadText : Addr} (T_BadText : PySem.ErrBadText.LowTxt K mg (clsAt K "BadText") I_BadText) {I_BadDeed : Addr} (T_BadDeed : PySem.ErrBadDeed.LowTxt K mg (clsAt K "BadDeed") I_BadDeed) {I_Promised : Addr} (T_Promised : PySem.ErrPromised.LowTxt K mg (clsAt K "Promised") I_Promised) {I_Fixed : Addr} (T_Fixed : PySem.ErrFixed.LowTxt K mg (clsAt K "Fixed") I_Fixed) {I_TooMany : Addr} (T_TooMany : PySem.ErrTooMany.LowTxt K mg (clsAt K "TooMany") I_TooMany) {I_NothingToUndo : Addr} (T_NothingToUndo : PySem.ErrNothingToUndo.LowTxt K mg (clsAt K "NothingToUndo") I_NothingToUndo) :
    FnOk P w K mg base (L2.CX P w) 1 f fd ["_law_kind", "_law_value_here"] (spF K 2 none (semB g__law_named_other 2 none b__law_named_other)) :=
  have S := sc__law_named_other
  fn_body F S (by decide) fun cdv A outer s H E hr =>
    (ss_cons (st_if (y_eq (hu64 hr) (e_v (i := 0) rfl (by first | exact .inl rfl | exact .inr (.inl rfl) | exact .inr (.inr rfl)) (by decide) (by decide)) xi) (ss_cons (st_ret (pe_namk_BadThing T_BadThing hr.r (e_v (i := 1) rfl (by first | exact .inl rfl | exact .inr (.inl rfl) | exact .inr (.inr rfl)) (by decide) (by decide)))) ss_nil) ss_nil) (ss_cons (st_if (y_eq (hu64 hr) (e_v (i := 0) rfl (by first | exact .inl rfl | exact .inr (.inl rfl) | exact .inr (.inr rfl)) (by decide) (by decide)) xi) (ss_cons (st_ret (pe_namk_NotSo T_NotSo hr.r (e_v (i := 1) rfl (by first | exact .inl rfl | exact .inr (.inl rfl) | exact .inr (.inr rfl)) (by decide) (by decide)))) ss_nil) ss_nil) (ss_cons (st_if (y_eq (hu64 hr) (e_v (i := 0) rfl (by first | exact .inl rfl | exact .inr (.inl rfl) | exact .inr (.inr rfl)) (by decide) (by decide)) xi) (ss_cons (st_ret (pe_namk_BadPaper T_BadPaper hr.r (e_v (i := 1) rfl (by first | exact .inl rfl | exact .inr (.inl rfl) | exact .inr (.inr rfl)) (by decide) (by decide)))) ss_nil) ss_nil) (ss_cons (st_if (y_eq (hu64 hr) (e_v (i := 0) rfl (by first | exact .inl rfl | exact .inr (.inl rfl) | exact .inr (.inr rfl)) (by decide) (by decide)) xi) (ss_cons (st_ret (pe_namk_BadTiding T_BadTiding hr.r (e_v (i := 1) rfl (by first | exact .inl rfl | exact .inr (.inl rfl) | exact .inr (.inr rfl)) (by decide) (by decide)))) ss_nil) ss_nil) (ss_cons (st_if (y_eq (hu64 hr) (e_v (i := 0) rfl (by first | exact .inl rfl | exact .inr (.inl rfl) | exact .inr (.inr rfl)) (by decide) (by decide)) xi) (ss_cons (st_ret (pe_namk_BadMenu T_BadMenu hr.r (e_v (i := 1) rfl (by first | exact .inl rfl | exact .inr (.inl rfl) | exact .inr (.inr rfl)) (by decide) (by decide)))) ss_nil) ss_nil) (ss_cons (st_if (y_eq (hu64 hr) (e_v (i := 0) rfl (by first | exact .inl rfl | exact .inr (.inl rfl) | exact .inr (.inr rfl)) (by decide) (by decide)) xi) (ss_cons (st_ret (pe_namk_BadText T_BadText hr.r (e_v (i := 1) rfl (by first | exact .inl rfl | exact .inr (.inl rfl) | exact .inr (.inr rfl)) (by decide) (by decide)))) ss_nil) ss_nil) (ss_cons (st_if (y_eq (hu64 hr) (e_v (i := 0) rfl (by first | exact .inl rfl | exact .inr (.inl rfl) | exact .inr (.inr rfl)) (by decide) (by decide)) xi) (ss_cons (st_ret (pe_namk_BadDeed T_BadDeed hr.r (e_v (i := 1) rfl (by first | exact .inl rfl | exact .inr (.inl rfl) | exact .inr (.inr rfl)) (by decide) (by decide)))) ss_nil) ss_nil) (ss_cons (st_if (y_eq (hu64 hr) (e_v (i := 0) rfl (by first | exact .inl rfl | exact .inr (.inl rfl) | exact .inr (.inr rfl)) (by decide) (by decide)) xi) (ss_cons (st_ret (pe_namk_Promised T_Promised hr.r (e_v (i := 1) rfl (by first | exact .inl rfl | exact .inr (.inl rfl) | exact .inr (.inr rfl)) (by decide) (by decide)))) ss_nil) ss_nil) (ss_cons (st_if (y_eq (hu64 hr) (e_v (i := 0) rfl (by first | exact .inl rfl | exact .inr (.inl rfl) | exact .inr (.inr rfl)) (by decide) (by decide)) xi) (ss_cons (st_ret (pe_namk_Fixed T_Fixed hr.r (e_v (i := 1) rfl (by first | exact .inl rfl | exact .inr (.inl rfl) | exact .inr (.inr rfl)) (by decide) (by decide)))) ss_nil) ss_nil) (ss_cons (st_if (y_eq (hu64 hr) (e_v (i := 0) rfl (by first | exact .inl rfl | exact .inr (.inl rfl) | exact .inr (.inr rfl)) (by decide) (by decide)) xi) (ss_cons (st_ret (pe_namk_TooMany T_TooMany hr.r (e_v (i := 1) rfl (by first | exact .inl rfl | exact .inr (.inl rfl) | exact .inr (.inr rfl)) (by decide) (by decide)))) ss_nil) ss_nil) (ss_cons (st_ret (pe_namk_NothingToUndo T_NothingToUndo hr.r (e_v (i := 1) rfl (by first | exact .inl rfl | exact .inr (.inl rfl) | exact .inr (.inr rfl)) (by decide) (by decide)))) ss_nil)))))))))))
def b__law_named : List ST := [.if_ (.cmp .eq (.v 0) (.c (.int 0))) [.ret (.v 1)] [], .if_ (.cmp .eq (.v 0) (.c (.int 1))) [.ret (.v 1)] [], .if_ (.cmp .eq (.v 0) (.c (.int 2))) [.ret (.v 1)] [], .if_ (.cmp .eq (.v 0) (.c (.int 3))) [.ret (.v 1)] [], .if_ (.cmp .eq (.v 0) (.c (.int 4))) [.ret (.v 1)] [], .if_ (.cmp .eq (.v 0) (.c (.int 5))) [.ret (.v 1)] [], .if_ (.cmp .eq (.v 0) (.c (.int 6))) [.ret (.v 1)] [], .if_ (.cmp .eq (.v 0) (.c (.int 7))) [.ret (.v 1)] [], .if_ (.cmp .eq (.v 0) (.c (.int 8))) [.ret (.v 1)] [], .ret (.call 0 [.v 0, .v 1])]
def g__law_named : Ctx := ⟨[f__law_named_other], [], [], [], []⟩
def f__law_named : Fn := ⟨2, none, semB g__law_named 2 none b__law_named⟩
theorem sc__law_named : FnScope ["_law_kind", "_law_value_here"] ["_law_kind", "_law_value_here"] (defScope (top 28)) := ⟨rfl, rfl, rfl, by decide +kernel, rfl, by decide +kernel, by decide +kernel⟩
theorem ok__law_named {f : Addr} {fd : FuncData} (F : Fun K "_law_named" "_law_named" (top 28) f fd) {I_BadPart : Addr} (T_BadPart : PySem.ErrBadPart.LowTxt K mg (clsAt K "BadPart") I_BadPart) {I_BadNumber : Addr} (T_BadNumber : PySem.ErrBadNumber.LowTxt K mg (clsAt K "BadNumber") I_BadNumber) {I_BadIndex : Addr} (T_BadIndex : PySem.ErrBadIndex.LowTxt K mg (clsAt K "BadIndex") I_BadIndex) {I_BadName : Addr} (T_BadName : PySem.ErrBadName.LowTxt K mg (clsAt K "BadName") I_BadName) {I_BadKey : Addr} (T_BadKey : PySem.ErrBadKey.LowTxt K mg (clsAt K "BadKey") I_BadKey) {I_BadErrand : Addr} (T_BadErrand : PySem.ErrBadErrand.LowTxt K mg (clsAt K "BadErrand") I_BadErrand) {I_BadOrder : Addr} (T_BadOrder : PySem.ErrBadOrder.LowTxt K mg (clsAt K "BadOrder") I_BadOrder) {I_NoWay : Addr} (T_NoWay : PySem.ErrNoWay.LowTxt K mg (clsAt K "NoWay") I_NoWay) {I_Ring : Addr} (T_Ring : PySem.ErrRing.LowTxt K mg (clsAt K "Ring") I_Ring) (F__law_named_other : FnF P w K mg base 1 "_law_named_other" f__law_named_other) :
    FnOk P w K mg base (L2.CX P w) 2 f fd ["_law_kind", "_law_value_here"] (spF K 2 none (semB g__law_named 2 none b__law_named)) :=
  have S := sc__law_named
  fn_body F S (by decide) fun cdv A outer s H E hr =>
    (ss_cons (st_if (y_eq (hu64 hr) (e_v (i := 0) rfl (by first | exact .inl rfl | exact .inr (.inl rfl) | exact .inr (.inr rfl)) (by decide) (by decide)) xi) (ss_cons (st_ret (pe_namk_BadPart T_BadPart hr.r (e_v (i := 1) rfl (by first | exact .inl rfl | exact .inr (.inl rfl) | exact .inr (.inr rfl)) (by decide) (by decide)))) ss_nil) ss_nil) (ss_cons (st_if (y_eq (hu64 hr) (e_v (i := 0) rfl (by first | exact .inl rfl | exact .inr (.inl rfl) | exact .inr (.inr rfl)) (by decide) (by decide)) xi) (ss_cons (st_ret (pe_namk_BadNumber T_BadNumber hr.r (e_v (i := 1) rfl (by first | exact .inl rfl | exact .inr (.inl rfl) | exact .inr (.inr rfl)) (by decide) (by decide)))) ss_nil) ss_nil) (ss_cons (st_if (y_eq (hu64 hr) (e_v (i := 0) rfl (by first | exact .inl rfl | exact .inr (.inl rfl) | exact .inr (.inr rfl)) (by decide) (by decide)) xi) (ss_cons (st_ret (pe_namk_BadIndex T_BadIndex hr.r (e_v (i := 1) rfl (by first | exact .inl rfl | exact .inr (.inl rfl) | exact .inr (.inr rfl)) (by decide) (by decide)))) ss_nil) ss_nil) (ss_cons (st_if (y_eq (hu64 hr) (e_v (i := 0) rfl (by first | exact .inl rfl | exact .inr (.inl rfl) | exact .inr (.inr rfl)) (by decide) (by decide)) xi) (ss_cons (st_ret (pe_namk_BadName T_BadName hr.r (e_v (i := 1) rfl (by first | exact .inl rfl | exact .inr (.inl rfl) | exact .inr (.inr rfl)) (by decide) (by decide)))) ss_nil) ss_nil) (ss_cons (st_if (y_eq (hu64 hr) (e_v (i := 0) rfl (by first | exact .inl rfl | exact .inr (.inl rfl) | exact .inr (.inr rfl)) (by decide) (by decide)) xi) (ss_cons (st_ret (pe_namk_BadKey T_BadKey hr.r (e_v (i := 1) rfl (by first | exact .inl rfl | exact .inr (.inl rfl) | exact .inr (.inr rfl)) (by decide) (by decide)))) ss_nil) ss_nil) (ss_cons (st_if (y_eq (hu64 hr) (e_v (i := 0) rfl (by first | exact .inl rfl | exact .inr (.inl rfl) | exact .inr (.inr rfl)) (by decide) (by decide)) xi) (ss_cons (st_ret (pe_namk_BadErrand T_BadErrand hr.r (e_v (i := 1) rfl (by first | exact .inl rfl | exact .inr (.inl rfl) | exact .inr (.inr rfl)) (by decide) (by decide)))) ss_nil) ss_nil) (ss_cons (st_if (y_eq (hu64 hr) (e_v (i := 0) rfl (by first | exact .inl rfl | exact .inr (.inl rfl) | exact .inr (.inr rfl)) (by decide) (by decide)) xi) (ss_cons (st_ret (pe_namk_BadOrder T_BadOrder hr.r (e_v (i := 1) rfl (by first | exact .inl rfl | exact .inr (.inl rfl) | exact .inr (.inr rfl)) (by decide) (by decide)))) ss_nil) ss_nil) (ss_cons (st_if (y_eq (hu64 hr) (e_v (i := 0) rfl (by first | exact .inl rfl | exact .inr (.inl rfl) | exact .inr (.inr rfl)) (by decide) (by decide)) xi) (ss_cons (st_ret (pe_namk_NoWay T_NoWay hr.r (e_v (i := 1) rfl (by first | exact .inl rfl | exact .inr (.inl rfl) | exact .inr (.inr rfl)) (by decide) (by decide)))) ss_nil) ss_nil) (ss_cons (st_if (y_eq (hu64 hr) (e_v (i := 0) rfl (by first | exact .inl rfl | exact .inr (.inl rfl) | exact .inr (.inr rfl)) (by decide) (by decide)) xi) (ss_cons (st_ret (pe_namk_Ring T_Ring hr.r (e_v (i := 1) rfl (by first | exact .inl rfl | exact .inr (.inl rfl) | exact .inr (.inr rfl)) (by decide) (by decide)))) ss_nil) ss_nil) (ss_cons (st_ret (e_call F__law_named_other rfl (hr.mono (by decide)) (takes_of rfl rfl rfl rfl) rfl (aa_cons (e_v (i := 0) rfl (by first | exact .inl rfl | exact .inr (.inl rfl) | exact .inr (.inr rfl)) (by decide) (by decide)) (aa_cons (e_v (i := 1) rfl (by first | exact .inl rfl | exact .inr (.inl rfl) | exact .inr (.inr rfl)) (by decide) (by decide)) aa_nil rfl) rfl) rfl)) ss_nil))))))))))
def b__law_kept : List ST := [.if_ (.cmp .eq (.v 0) (.c (.int 0))) [.ret (.efld (.v 1) "part" cf_part)] [], .if_ (.cmp .eq (.v 0) (.c (.int 1))) [.ret (.efld (.v 1) "number" cf_number)] [], .if_ (.cmp .in_ (.v 0) (.lst [.c (.int 2), .c (.int 5), .c (.int 12), .c (.int 13), .c (.int 15)])) [.ret (.efld (.v 1) "index" cf_index)] [], .if_ (.cmp .in_ (.v 0) (.lst [.c (.int 3), .c (.int 6)])) [.ret (.efld (.v 1) "name" cf_name)] [], .if_ (.cmp .in_ (.v 0) (.lst [.c (.int 4), .c (.int 16), .c (.int 17)])) [.ret (.efld (.v 1) "key" cf_key)] [], .if_ (.cmp .eq (.v 0) (.c (.int 7))) [.ret (.efld (.v 1) "pair" cf_pair)] [], .if_ (.cmp .eq (.v 0) (.c (.int 8))) [.ret (.efld (.v 1) "ring" cf_ring)] [], .if_ (.cmp .eq (.v 0) (.c (.int 9))) [.ret (.efld (.v 1) "thing" cf_thing)] [], .if_ (.cmp .eq (.v 0) (.c (.int 10))) [.ret (.efld (.v 1) "word" cf_word)] [], .if_ (.cmp .eq (.v 0) (.c (.int 11))) [.ret (.efld (.v 1) "reason" cf_reason)] [], .if_ (.cmp .eq (.v 0) (.c (.int 14))) [.ret (.efld (.v 1) "line" cf_line)] [], .if_ (.cmp .eq (.v 0) (.c (.int 18))) [.ret (.efld (.v 1) "limit" cf_limit)] [], .ret (.efld (.v 1) "name" cf_name)]
def g__law_kept : Ctx := ⟨[], [], [], [], []⟩
def f__law_kept : Fn := ⟨2, none, semB g__law_kept 2 none b__law_kept⟩
theorem sc__law_kept : FnScope ["_law_kind", "_law_e"] ["_law_kind", "_law_e"] (defScope (top 29)) := ⟨rfl, rfl, rfl, by decide +kernel, rfl, by decide +kernel, by decide +kernel⟩
theorem ok__law_kept {f : Addr} {fd : FuncData} (F : Fun K "_law_kept" "_law_kept" (top 29) f fd) (KF_part : ∀ C ∈ cf_part, ErrF K "part" C) (KF_number : ∀ C ∈ cf_number, ErrF K "number" C) (KF_index : ∀ C ∈ cf_index, ErrF K "index" C) (KF_name : ∀ C ∈ cf_name, ErrF K "name" C) (KF_key : ∀ C ∈ cf_key, ErrF K "key" C) (KF_pair : ∀ C ∈ cf_pair, ErrF K "pair" C) (KF_ring : ∀ C ∈ cf_ring, ErrF K "ring" C) (KF_thing : ∀ C ∈ cf_thing, ErrF K "thing" C) (KF_word : ∀ C ∈ cf_word, ErrF K "word" C) (KF_reason : ∀ C ∈ cf_reason, ErrF K "reason" C) (KF_line : ∀ C ∈ cf_line, ErrF K "line" C) (KF_limit : ∀ C ∈ cf_limit, ErrF K "limit" C) :
    FnOk P w K mg base (L2.CX P w) 1 f fd ["_law_kind", "_law_e"] (spF K 2 none (semB g__law_kept 2 none b__law_kept)) :=
  have S := sc__law_kept
  fn_body F S (by decide) fun cdv A outer s H E hr =>
    (ss_cons (st_if (y_eq (hu64 hr) (e_v (i := 0) rfl (by first | exact .inl rfl | exact .inr (.inl rfl) | exact .inr (.inr rfl)) (by decide) (by decide)) xi) (ss_cons (st_ret (e_efld KF_part (e_v (i := 1) rfl (by first | exact .inl rfl | exact .inr (.inl rfl) | exact .inr (.inr rfl)) (by decide) (by decide)))) ss_nil) ss_nil) (ss_cons (st_if (y_eq (hu64 hr) (e_v (i := 0) rfl (by first | exact .inl rfl | exact .inr (.inl rfl) | exact .inr (.inr rfl)) (by decide) (by decide)) xi) (ss_cons (st_ret (e_efld KF_number (e_v (i := 1) rfl (by first | exact .inl rfl | exact .inr (.inl rfl) | exact .inr (.inr rfl)) (by decide) (by decide)))) ss_nil) ss_nil) (ss_cons (st_if (y_in (hu65 hr) (e_v (i := 0) rfl (by first | exact .inl rfl | exact .inr (.inl rfl) | exact .inr (.inr rfl)) (by decide) (by decide)) (e_lst (as_cons xi (as_cons xi (as_cons xi (as_cons xi (as_cons xi as_nil rfl) rfl) rfl) rfl) rfl)) rfl) (ss_cons (st_ret (e_efld KF_index (e_v (i := 1) rfl (by first | exact .inl rfl | exact .inr (.inl rfl) | exact .inr (.inr rfl)) (by decide) (by decide)))) ss_nil) ss_nil) (ss_cons (st_if (y_in (hu65 hr) (e_v (i := 0) rfl (by first | exact .inl rfl | exact .inr (.inl rfl) | exact .inr (.inr rfl)) (by decide) (by decide)) (e_lst (as_cons xi (as_cons xi as_nil rfl) rfl)) rfl) (ss_cons (st_ret (e_efld KF_name (e_v (i := 1) rfl (by first | exact .inl rfl | exact .inr (.inl rfl) | exact .inr (.inr rfl)) (by decide) (by decide)))) ss_nil) ss_nil) (ss_cons (st_if (y_in (hu65 hr) (e_v (i := 0) rfl (by first | exact .inl rfl | exact .inr (.inl rfl) | exact .inr (.inr rfl)) (by decide) (by decide)) (e_lst (as_cons xi (as_cons xi (as_cons xi as_nil rfl) rfl) rfl)) rfl) (ss_cons (st_ret (e_efld KF_key (e_v (i := 1) rfl (by first | exact .inl rfl | exact .inr (.inl rfl) | exact .inr (.inr rfl)) (by decide) (by decide)))) ss_nil) ss_nil) (ss_cons (st_if (y_eq (hu64 hr) (e_v (i := 0) rfl (by first | exact .inl rfl | exact .inr (.inl rfl) | exact .inr (.inr rfl)) (by decide) (by decide)) xi) (ss_cons (st_ret (e_efld KF_pair (e_v (i := 1) rfl (by first | exact .inl rfl | exact .inr (.inl rfl) | exact .inr (.inr rfl)) (by decide) (by decide)))) ss_nil) ss_nil) (ss_cons (st_if (y_eq (hu64 hr) (e_v (i := 0) rfl (by first | exact .inl rfl | exact .inr (.inl rfl) | exact .inr (.inr rfl)) (by decide) (by decide)) xi) (ss_cons (st_ret (e_efld KF_ring (e_v (i := 1) rfl (by first | exact .inl rfl | exact .inr (.inl rfl) | exact .inr (.inr rfl)) (by decide) (by decide)))) ss_nil) ss_nil) (ss_cons (st_if (y_eq (hu64 hr) (e_v (i := 0) rfl (by first | exact .inl rfl | exact .inr (.inl rfl) | exact .inr (.inr rfl)) (by decide) (by decide)) xi) (ss_cons (st_ret (e_efld KF_thing (e_v (i := 1) rfl (by first | exact .inl rfl | exact .inr (.inl rfl) | exact .inr (.inr rfl)) (by decide) (by decide)))) ss_nil) ss_nil) (ss_cons (st_if (y_eq (hu64 hr) (e_v (i := 0) rfl (by first | exact .inl rfl | exact .inr (.inl rfl) | exact .inr (.inr rfl)) (by decide) (by decide)) xi) (ss_cons (st_ret (e_efld KF_word (e_v (i := 1) rfl (by first | exact .inl rfl | exact .inr (.inl rfl) | exact .inr (.inr rfl)) (by decide) (by decide)))) ss_nil) ss_nil) (ss_cons (st_if (y_eq (hu64 hr) (e_v (i := 0) rfl (by first | exact .inl rfl | exact .inr (.inl rfl) | exact .inr (.inr rfl)) (by decide) (by decide)) xi) (ss_cons (st_ret (e_efld KF_reason (e_v (i := 1) rfl (by first | exact .inl rfl | exact .inr (.inl rfl) | exact .inr (.inr rfl)) (by decide) (by decide)))) ss_nil) ss_nil) (ss_cons (st_if (y_eq (hu64 hr) (e_v (i := 0) rfl (by first | exact .inl rfl | exact .inr (.inl rfl) | exact .inr (.inr rfl)) (by decide) (by decide)) xi) (ss_cons (st_ret (e_efld KF_line (e_v (i := 1) rfl (by first | exact .inl rfl | exact .inr (.inl rfl) | exact .inr (.inr rfl)) (by decide) (by decide)))) ss_nil) ss_nil) (ss_cons (st_if (y_eq (hu64 hr) (e_v (i := 0) rfl (by first | exact .inl rfl | exact .inr (.inl rfl) | exact .inr (.inr rfl)) (by decide) (by decide)) xi) (ss_cons (st_ret (e_efld KF_limit (e_v (i := 1) rfl (by first | exact .inl rfl | exact .inr (.inl rfl) | exact .inr (.inr rfl)) (by decide) (by decide)))) ss_nil) ss_nil) (ss_cons (st_ret (e_efld KF_name (e_v (i := 1) rfl (by first | exact .inl rfl | exact .inr (.inl rfl) | exact .inr (.inr rfl)) (by decide) (by decide)))) ss_nil)))))))))))))
def b__law_kinds : List ST := [.asg (.name 1) (.lst []), .asg (.name 1) (.bin .add (.v 1) (.lst [.eis (.v 0) tab_BadPart "BadPart", .eis (.v 0) tab_BadNumber "BadNumber", .eis (.v 0) tab_BadIndex "BadIndex"])), .asg (.name 1) (.bin .add (.v 1) (.lst [.eis (.v 0) tab_BadName "BadName", .eis (.v 0) tab_BadKey "BadKey", .eis (.v 0) tab_BadErrand "BadErrand"])), .asg (.name 1) (.bin .add (.v 1) (.lst [.eis (.v 0) tab_BadOrder "BadOrder", .eis (.v 0) tab_NoWay "NoWay", .eis (.v 0) tab_Ring "Ring"])), .asg (.name 1) (.bin .add (.v 1) (.lst [.eis (.v 0) tab_BadThing "BadThing", .eis (.v 0) tab_NotSo "NotSo", .eis (.v 0) tab_BadPaper "BadPaper"])), .asg (.name 1) (.bin .add (.v 1) (.lst [.eis (.v 0) tab_BadTiding "BadTiding", .eis (.v 0) tab_BadMenu "BadMenu", .eis (.v 0) tab_BadText "BadText"])), .asg (.name 1) (.bin .add (.v 1) (.lst [.eis (.v 0) tab_BadDeed "BadDeed", .eis (.v 0) tab_Promised "Promised", .eis (.v 0) tab_Fixed "Fixed"])), .ret (.lc (.name 2) (.rng1 (.blt .len [.v 1])) (some (.ix (.v 1) (.v 2))) (.v 2) [2])]
def g__law_kinds : Ctx := ⟨[], [], [], [], []⟩
def f__law_kinds : Fn := ⟨1, none, semB g__law_kinds 3 none b__law_kinds⟩
theorem sc__law_kinds : FnScope ["_law_e", "_law_found", "_law_at"] ["_law_e"] (defScope (top 30)) := ⟨rfl, rfl, rfl, by decide +kernel, rfl, by decide +kernel, by decide +kernel⟩
theorem ok__law_kinds {f : Addr} {fd : FuncData} (F : Fun K "_law_kinds" "_law_kinds" (top 30) f fd) (z_isinstance : mg "isinstance" = none) (z_range : mg "range" = none) (z_len : mg "len" = none) {aI_BadPart : Addr} (gI_BadPart : mg "BadPart" = some (.ref aI_BadPart)) {aI_BadNumber : Addr} (gI_BadNumber : mg "BadNumber" = some (.ref aI_BadNumber)) {aI_BadIndex : Addr} (gI_BadIndex : mg "BadIndex" = some (.ref aI_BadIndex)) {aI_BadName : Addr} (gI_BadName : mg "BadName" = some (.ref aI_BadName)) {aI_BadKey : Addr} (gI_BadKey : mg "BadKey" = some (.ref aI_BadKey)) {aI_BadErrand : Addr} (gI_BadErrand : mg "BadErrand" = some (.ref aI_BadErrand)) {aI_BadOrder : Addr} (gI_BadOrder : mg "BadOrder" = some (.ref aI_BadOrder)) {aI_NoWay : Addr} (gI_NoWay : mg "NoWay" = some (.ref aI_NoWay)) {aI_Ring : Addr} (gI_Ring : mg "Ring" = some (.ref aI_Ring)) {aI_BadThing : Addr} (gI_BadThing : mg "BadThing" = some (.ref aI_BadThing)) {aI_NotSo : Addr} (gI_NotSo : mg "NotSo" = some (.ref aI_NotSo)) {aI_BadPaper : Addr} (gI_BadPaper : mg "BadPaper" = some (.ref aI_BadPaper)) {aI_BadTiding : Addr} (gI_BadTiding : mg "BadTiding" = some (.ref aI_BadTiding)) {aI_BadMenu : Addr} (gI_BadMenu : mg "BadMenu" = some (.ref aI_BadMenu)) {aI_BadText : Addr} (gI_BadText : mg "BadText" = some (.ref aI_BadText)) {aI_BadDeed : Addr} (gI_BadDeed : mg "BadDeed" = some (.ref aI_BadDeed)) {aI_Promised : Addr} (gI_Promised : mg "Promised" = some (.ref aI_Promised)) {aI_Fixed : Addr} (gI_Fixed : mg "Fixed" = some (.ref aI_Fixed)) (KI_BadPart : EisF K tab_BadPart (.ref aI_BadPart)) (KI_BadNumber : EisF K tab_BadNumber (.ref aI_BadNumber)) (KI_BadIndex : EisF K tab_BadIndex (.ref aI_BadIndex)) (KI_BadName : EisF K tab_BadName (.ref aI_BadName)) (KI_BadKey : EisF K tab_BadKey (.ref aI_BadKey)) (KI_BadErrand : EisF K tab_BadErrand (.ref aI_BadErrand)) (KI_BadOrder : EisF K tab_BadOrder (.ref aI_BadOrder)) (KI_NoWay : EisF K tab_NoWay (.ref aI_NoWay)) (KI_Ring : EisF K tab_Ring (.ref aI_Ring)) (KI_BadThing : EisF K tab_BadThing (.ref aI_BadThing)) (KI_NotSo : EisF K tab_NotSo (.ref aI_NotSo)) (KI_BadPaper : EisF K tab_BadPaper (.ref aI_BadPaper)) (KI_BadTiding : EisF K tab_BadTiding (.ref aI_BadTiding)) (KI_BadMenu : EisF K tab_BadMenu (.ref aI_BadMenu)) (KI_BadText : EisF K tab_BadText (.ref aI_BadText)) (KI_BadDeed : EisF K tab_BadDeed (.ref aI_BadDeed)) (KI_Promised : EisF K tab_Promised (.ref aI_Promised)) (KI_Fixed : EisF K tab_Fixed (.ref aI_Fixed)) :
    FnOk P w K mg base (L2.CX P w) 1 f fd ["_law_e"] (spF K 1 none (semB g__law_kinds 3 none b__law_kinds)) :=
  have S := sc__law_kinds
  fn_body F S (by decide) fun cdv A outer s H E hr =>
    (ss_cons (st_asg (ps_set (i := 1) S.nd rfl (by first | exact .inl rfl | exact .inr rfl) (e_lst as_nil) rfl (by first | exact .inl rfl | exact .inr rfl))) (ss_cons (st_asg (ps_set (i := 1) S.nd rfl (by first | exact .inl rfl | exact .inr rfl) (x_add (e_v (i := 1) rfl (by first | exact .inl rfl | exact .inr (.inl rfl) | exact .inr (.inr rfl)) (by decide) (by decide)) (e_lst (as_cons (e_eis KI_BadPart (.own _) (e_v (i := 0) rfl (by first | exact .inl rfl | exact .inr (.inl rfl) | exact .inr (.inr rfl)) (by decide) (by decide)) (pe_glob rfl gI_BadPart rfl) rfl z_isinstance rfl rfl) (as_cons (e_eis KI_BadNumber (.own _) (e_v (i := 0) rfl (by first | exact .inl rfl | exact .inr (.inl rfl) | exact .inr (.inr rfl)) (by decide) (by decide)) (pe_glob rfl gI_BadNumber rfl) rfl z_isinstance rfl rfl) (as_cons (e_eis KI_BadIndex (.own _) (e_v (i := 0) rfl (by first | exact .inl rfl | exact .inr (.inl rfl) | exact .inr (.inr rfl)) (by decide) (by decide)) (pe_glob rfl gI_BadIndex rfl) rfl z_isinstance rfl rfl) as_nil rfl) rfl) rfl))) rfl (by first | exact .inl rfl | exact .inr rfl))) (ss_cons (st_asg (ps_set (i := 1) S.nd rfl (by first | exact .inl rfl | exact .inr rfl) (x_add (e_v (i := 1) rfl (by first | exact .inl rfl | exact .inr (.inl rfl) | exact .inr (.inr rfl)) (by decide) (by decide)) (e_lst (as_cons (e_eis KI_BadName (.own _) (e_v (i := 0) rfl (by first | exact .inl rfl | exact .inr (.inl rfl) | exact .inr (.inr rfl)) (by decide) (by decide)) (pe_glob rfl gI_BadName rfl) rfl z_isinstance rfl rfl) (as_cons (e_eis KI_BadKey (.own _) (e_v (i := 0) rfl (by first | exact .inl rfl | exact .inr (.inl rfl) | exact .inr (.inr rfl)) (by decide) (by decide)) (pe_glob rfl gI_BadKey rfl) rfl z_isinstance rfl rfl) (as_cons (e_eis KI_BadErrand (.own _) (e_v (i := 0) rfl (by first | exact .inl rfl | exact .inr (.inl rfl) | exact .inr (.inr rfl)) (by decide) (by decide)) (pe_glob rfl gI_BadErrand rfl) rfl z_isinstance rfl rfl) as_nil rfl) rfl) rfl))) rfl (by first | exact .inl rfl | exact .inr rfl))) (ss_cons (st_asg (ps_set (i := 1) S.nd rfl (by first | exact .inl rfl | exact .inr rfl) (x_add (e_v (i := 1) rfl (by first | exact .inl rfl | exact .inr (.inl rfl) | exact .inr (.inr rfl)) (by decide) (by decide)) (e_lst (as_cons (e_eis KI_BadOrder (.own _) (e_v (i := 0) rfl (by first | exact .inl rfl | exact .inr (.inl rfl) | exact .inr (.inr rfl)) (by decide) (by decide)) (pe_glob rfl gI_BadOrder rfl) rfl z_isinstance rfl rfl) (as_cons (e_eis KI_NoWay (.own _) (e_v (i := 0) rfl (by first | exact .inl rfl | exact .inr (.inl rfl) | exact .inr (.inr rfl)) (by decide) (by decide)) (pe_glob rfl gI_NoWay rfl) rfl z_isinstance rfl rfl) (as_cons (e_eis KI_Ring (.own _) (e_v (i := 0) rfl (by first | exact .inl rfl | exact .inr (.inl rfl) | exact .inr (.inr rfl)) (by decide) (by decide)) (pe_glob rfl gI_Ring rfl) rfl z_isinstance rfl rfl) as_nil rfl) rfl) rfl))) rfl (by first | exact .inl rfl | exact .inr rfl))) (ss_cons (st_asg (ps_set (i := 1) S.nd rfl (by first | exact .inl rfl | exact .inr rfl) (x_add (e_v (i := 1) rfl (by first | exact .inl rfl | exact .inr (.inl rfl) | exact .inr (.inr rfl)) (by decide) (by decide)) (e_lst (as_cons (e_eis KI_BadThing (.own _) (e_v (i := 0) rfl (by first | exact .inl rfl | exact .inr (.inl rfl) | exact .inr (.inr rfl)) (by decide) (by decide)) (pe_glob rfl gI_BadThing rfl) rfl z_isinstance rfl rfl) (as_cons (e_eis KI_NotSo (.own _) (e_v (i := 0) rfl (by first | exact .inl rfl | exact .inr (.inl rfl) | exact .inr (.inr rfl)) (by decide) (by decide)) (pe_glob rfl gI_NotSo rfl) rfl z_isinstance rfl rfl) (as_cons (e_eis KI_BadPaper (.own _) (e_v (i := 0) rfl (by first | exact .inl rfl | exact .inr (.inl rfl) | exact .inr (.inr rfl)) (by decide) (by decide)) (pe_glob rfl gI_BadPaper rfl) rfl z_isinstance rfl rfl) as_nil rfl) rfl) rfl))) rfl (by first | exact .inl rfl | exact .inr rfl))) (ss_cons (st_asg (ps_set (i := 1) S.nd rfl (by first | exact .inl rfl | exact .inr rfl) (x_add (e_v (i := 1) rfl (by first | exact .inl rfl | exact .inr (.inl rfl) | exact .inr (.inr rfl)) (by decide) (by decide)) (e_lst (as_cons (e_eis KI_BadTiding (.own _) (e_v (i := 0) rfl (by first | exact .inl rfl | exact .inr (.inl rfl) | exact .inr (.inr rfl)) (by decide) (by decide)) (pe_glob rfl gI_BadTiding rfl) rfl z_isinstance rfl rfl) (as_cons (e_eis KI_BadMenu (.own _) (e_v (i := 0) rfl (by first | exact .inl rfl | exact .inr (.inl rfl) | exact .inr (.inr rfl)) (by decide) (by decide)) (pe_glob rfl gI_BadMenu rfl) rfl z_isinstance rfl rfl) (as_cons (e_eis KI_BadText (.own _) (e_v (i := 0) rfl (by first | exact .inl rfl | exact .inr (.inl rfl) | exact .inr (.inr rfl)) (by decide) (by decide)) (pe_glob rfl gI_BadText rfl) rfl z_isinstance rfl rfl) as_nil rfl) rfl) rfl))) rfl (by first | exact .inl rfl | exact .inr rfl))) (ss_cons (st_asg (ps_set (i := 1) S.nd rfl (by first | exact .inl rfl | exact .inr rfl) (x_add (e_v (i := 1) rfl (by first | exact .inl rfl | exact .inr (.inl rfl) | exact .inr (.inr rfl)) (by decide) (by decide)) (e_lst (as_cons (e_eis KI_BadDeed (.own _) (e_v (i := 0) rfl (by first | exact .inl rfl | exact .inr (.inl rfl) | exact .inr (.inr rfl)) (by decide) (by decide)) (pe_glob rfl gI_BadDeed rfl) rfl z_isinstance rfl rfl) (as_cons (e_eis KI_Promised (.own _) (e_v (i := 0) rfl (by first | exact .inl rfl | exact .inr (.inl rfl) | exact .inr (.inr rfl)) (by decide) (by decide)) (pe_glob rfl gI_Promised rfl) rfl z_isinstance rfl rfl) (as_cons (e_eis KI_Fixed (.own _) (e_v (i := 0) rfl (by first | exact .inl rfl | exact .inr (.inl rfl) | exact .inr (.inr rfl)) (by decide) (by decide)) (pe_glob rfl gI_Fixed rfl) rfl z_isinstance rfl rfl) as_nil rfl) rfl) rfl))) rfl (by first | exact .inl rfl | exact .inr rfl))) (ss_cons (st_ret (e_lc (own := [("_law_at", 2)]) rfl S.nd (i_rng1 rfl z_range (b_len z_len rfl (e_v (i := 1) rfl (by first | exact .inl rfl | exact .inr (.inl rfl) | exact .inr (.inr rfl)) (by decide) (by decide)) rfl) rfl) (blkOk_by (N := ["_law_e", "_law_found", "_law_at"]) (sc := defScope (top 30)) (by decide +kernel)) (fun _ _ _ _ _ => (pg_name (i := 2) S.nd rfl (by first | exact .inl rfl | exact .inr rfl) (by first | exact .inl rfl | exact .inr rfl))) (fun _ _ _ _ _ => (pts_one (t_truth (e_ix (e_v (i := 1) rfl (by first | exact .inl rfl | exact .inr (.inl rfl) | exact .inr (.inr rfl)) (by decide) (by decide)) (e_v (i := 2) rfl (by first | exact .inl rfl | exact .inr (.inl rfl) | exact .inr (.inr rfl)) (by decide) (by decide)) (fun _ _ => rfl)) (fun _ => rfl)))) (fun _ _ _ _ _ => (e_v (i := 2) rfl (by first | exact .inl rfl | exact .inr (.inl rfl) | exact .inr (.inr rfl)) (by decide) (by decide))) (fun _ => rfl))) ss_nil))))))))
def b__law_caught : List ST := [.asg (.name 2) (.c .non), .tryk 2 3 (.call 0 [.v 0, .v 1]) tab_all, .ret (.v 2)]
def g__law_caught : Ctx := ⟨[f__law_throw], [], [], [], []⟩
def f__law_caught : Fn := ⟨2, none, semB g__law_caught 4 none b__law_caught⟩
theorem sc__law_caught : FnScope ["_law_kind", "_law_value_here", "_law_fell", "_law_e"] ["_law_kind", "_law_value_here"] (defScope (top 31)) := ⟨rfl, rfl, rfl, by decide +kernel, rfl, by decide +kernel, by decide +kernel⟩
theorem ok__law_caught {f : Addr} {fd : FuncData} (F : Fun K "_law_caught" "_law_caught" (top 31) f fd) (F__law_throw : FnF P w K mg base 2 "_law_throw" f__law_throw) {aI_DayError : Addr} (gI_DayError : mg "DayError" = some (.ref aI_DayError)) {aI_TooMany : Addr} (gI_TooMany : mg "TooMany" = some (.ref aI_TooMany)) {aI_NothingToUndo : Addr} (gI_NothingToUndo : mg "NothingToUndo" = some (.ref aI_NothingToUndo)) (KT : ∀ C ∈ tab_all, hits K (.ref (clsAt K C)) [.ref aI_DayError, .ref aI_TooMany, .ref aI_NothingToUndo]) :
    FnOk P w K mg base (L2.CX P w) 3 f fd ["_law_kind", "_law_value_here"] (spF K 2 none (semB g__law_caught 4 none b__law_caught)) :=
  have S := sc__law_caught
  fn_body F S (by decide) fun cdv A outer s H E hr =>
    (ss_cons (st_asg (ps_set (i := 2) S.nd rfl (by first | exact .inl rfl | exact .inr rfl) xn rfl (by first | exact .inl rfl | exact .inr rfl))) (ss_cons (st_tryk (n := 3) (by show 3 < 4; decide) rfl rfl S.nd rfl rfl rfl (fun W pn xe tk => (e_call F__law_throw rfl (hr.mono (by decide)) tk rfl (aa_cons (e_v (i := 0) rfl (by first | exact .inl rfl | exact .inr (.inl rfl) | exact .inr (.inr rfl)) (by decide) (by decide)) (aa_cons (e_v (i := 1) rfl (by first | exact .inl rfl | exact .inr (.inl rfl) | exact .inr (.inr rfl)) (by decide) (by decide)) aa_nil rfl) rfl) rfl)) (.more ⟨rfl, by decide, .inl gI_DayError⟩ (fun ea eo pn => kp_asg (pe_var (i := 3) rfl (by first | exact .inl rfl | exact .inr (.inl rfl) | exact .inr (.inr rfl)) (by decide) (by decide)) (pg_name (i := 2) S.nd rfl (by first | exact .inl rfl | exact .inr rfl) (by first | exact .inl rfl | exact .inr rfl)) rfl rfl) (.more ⟨rfl, by decide, .inl gI_TooMany⟩ (fun ea eo pn => kp_asg (pe_var (i := 3) rfl (by first | exact .inl rfl | exact .inr (.inl rfl) | exact .inr (.inr rfl)) (by decide) (by decide)) (pg_name (i := 2) S.nd rfl (by first | exact .inl rfl | exact .inr rfl) (by first | exact .inl rfl | exact .inr rfl)) rfl rfl) (.more ⟨rfl, by decide, .inl gI_NothingToUndo⟩ (fun ea eo pn => kp_asg (pe_var (i := 3) rfl (by first | exact .inl rfl | exact .inr (.inl rfl) | exact .inr (.inr rfl)) (by decide) (by decide)) (pg_name (i := 2) S.nd rfl (by first | exact .inl rfl | exact .inr rfl) (by first | exact .inl rfl | exact .inr rfl)) rfl rfl) .none_))) KT) (ss_cons (st_ret (e_v (i := 2) rfl (by first | exact .inl rfl | exact .inr (.inl rfl) | exact .inr (.inr rfl)) (by decide) (by decide))) ss_nil)))
def b__law_value : List ST := [.asg (.name 2) (.call 0 [.v 0, .v 1, .c (.int 4)]), .if_ (.cmp .eq (.v 2) (.c (.int 0))) [.ret (.c .non)] [], .if_ (.cmp .eq (.v 2) (.c (.int 1))) [.ret (.bin .sub (.call 0 [.v 0, .v 1, .bin .pow (.c (.int 10)) (.c (.int 6))]) (.c (.int 1000)))] [], .if_ (.cmp .eq (.v 2) (.c (.int 2))) [.ret (.tup [.c (.str "ann"), .call 0 [.v 0, .v 1, .c (.int 5)], .c (.str "ends")])] [], .ret (.ix (.lst [.c (.str "quorum"), .c (.str ""), .c (.str "day"), .c (.str "leaves")]) (.call 0 [.v 0, .v 1, .c (.int 4)]))]
def g__law_value : Ctx := ⟨[f__law_draw], [], [], [], []⟩
def f__law_value : Fn := ⟨2, some 1, semB g__law_value 3 (some 1) b__law_value⟩
theorem sc__law_value : FnScope ["_law_script", "_law_state", "_law_kind"] ["_law_script", "_law_state"] (defScope (top 32)) := ⟨rfl, rfl, rfl, by decide +kernel, rfl, by decide +kernel, by decide +kernel⟩
theorem ok__law_value {f : Addr} {fd : FuncData} (F : Fun K "_law_value" "_law_value" (top 32) f fd) (F__law_draw : FnF P w K mg base 1 "_law_draw" f__law_draw) :
    FnOk P w K mg base (L2.CX P w) 2 f fd ["_law_script", "_law_state"] (spF K 2 (some 1) (semB g__law_value 3 (some 1) b__law_value)) :=
  have S := sc__law_value
  fn_body F S (by decide) fun cdv A outer s H E hr =>
    (ss_cons (st_asg (ps_set (i := 2) S.nd rfl (by first | exact .inl rfl | exact .inr rfl) (e_call F__law_draw rfl (hr.mono (by decide)) (takes_of rfl rfl rfl rfl) rfl (aa_cons (e_v (i := 0) rfl (by first | exact .inl rfl | exact .inr (.inl rfl) | exact .inr (.inr rfl)) (by decide) (by decide)) (aa_cons (e_v (i := 1) rfl (by first | exact .inl rfl | exact .inr (.inl rfl) | exact .inr (.inr rfl)) (by decide) (by decide)) (aa_cons xi aa_nil rfl) rfl) rfl) rfl) rfl (by first | exact .inl rfl | exact .inr rfl))) (ss_cons (st_if (y_eq (hu64 hr) (e_v (i := 2) rfl (by first | exact .inl rfl | exact .inr (.inl rfl) | exact .inr (.inr rfl)) (by decide) (by decide)) xi) (ss_cons (st_ret xn) ss_nil) ss_nil) (ss_cons (st_if (y_eq (hu64 hr) (e_v (i := 2) rfl (by first | exact .inl rfl | exact .inr (.inl rfl) | exact .inr (.inr rfl)) (by decide) (by decide)) xi) (ss_cons (st_ret (x_sub (e_call F__law_draw rfl (hr.mono (by decide)) (takes_of rfl rfl rfl rfl) rfl (aa_cons (e_v (i := 0) rfl (by first | exact .inl rfl | exact .inr (.inl rfl) | exact .inr (.inr rfl)) (by decide) (by decide)) (aa_cons (e_v (i := 1) rfl (by first | exact .inl rfl | exact .inr (.inl rfl) | exact .inr (.inr rfl)) (by decide) (by decide)) (aa_cons (x_pow xi xi) aa_nil rfl) rfl) rfl) rfl) xi)) ss_nil) ss_nil) (ss_cons (st_if (y_eq (hu64 hr) (e_v (i := 2) rfl (by first | exact .inl rfl | exact .inr (.inl rfl) | exact .inr (.inr rfl)) (by decide) (by decide)) xi) (ss_cons (st_ret (e_tup (as_cons xs (as_cons (e_call F__law_draw rfl (hr.mono (by decide)) (takes_of rfl rfl rfl rfl) rfl (aa_cons (e_v (i := 0) rfl (by first | exact .inl rfl | exact .inr (.inl rfl) | exact .inr (.inr rfl)) (by decide) (by decide)) (aa_cons (e_v (i := 1) rfl (by first | exact .inl rfl | exact .inr (.inl rfl) | exact .inr (.inr rfl)) (by decide) (by decide)) (aa_cons xi aa_nil rfl) rfl) rfl) rfl) (as_cons xs as_nil rfl) rfl) rfl))) ss_nil) ss_nil) (ss_cons (st_ret (e_ix (e_lst (as_cons xs (as_cons xs (as_cons xs (as_cons xs as_nil rfl) rfl) rfl) rfl)) (e_call F__law_draw rfl (hr.mono (by decide)) (takes_of rfl rfl rfl rfl) rfl (aa_cons (e_v (i := 0) rfl (by first | exact .inl rfl | exact .inr (.inl rfl) | exact .inr (.inr rfl)) (by decide) (by decide)) (aa_cons (e_v (i := 1) rfl (by first | exact .inl rfl | exact .inr (.inl rfl) | exact .inr (.inr rfl)) (by decide) (by decide)) (aa_cons xi aa_nil rfl) rfl) rfl) rfl) (fun _ _ => rfl))) ss_nil)))))
def b_law : List ST := [.new 1 (.call 0 [.v 0]), .for_ (.name 2) (.rng1 (.c (.int 20))) [.asg (.name 3) (.call 0 [.v 0, .v 1]), .asg (.name 4) (.call 1 [.v 2, .v 3]), .if_ (.or_ (.cmp .ne (.call 2 [.v 2, .v 3]) (.v 3)) (.cmp .ne (.call 3 [.v 2, .v 4]) (.v 3))) [.ret (.c (.bl false))] [], .if_ (.or_ (.cmp .ne (.eis (.v 4) tab_DayError "DayError") (.cmp .lt (.v 2) (.c (.int 18)))) (.cmp .ne (.eis (.v 4) tab_ValueError "ValueError") (.cmp .lt (.v 2) (.c (.int 18))))) [.ret (.c (.bl false))] [], .if_ (.cmp .ne (.call 4 [.v 4]) (.sl (.lst [.v 2]) none (some (.blt .int [.cmp .lt (.v 2) (.c (.int 18))])))) [.ret (.c (.bl false))] []], .ret (.c (.bl true))]
def g_law : Ctx := ⟨[f__law_value, f__law_caught, f__law_named, f__law_kept, f__law_kinds], [], [], [], [f__law_start]⟩
theorem cl_law_1 {a0 a1 : IR} {env : Env} : ev g_law (.call 1 [a0, a1]) env = (evs g_law [a0, a1] env).bind fun ds e1 => runF e1 (f__law_caught.sem ds) := ev_call rfl rfl rfl
theorem cl_law_2 {a0 a1 : IR} {env : Env} : ev g_law (.call 2 [a0, a1]) env = (evs g_law [a0, a1] env).bind fun ds e1 => runF e1 (f__law_named.sem ds) := ev_call rfl rfl rfl
theorem cl_law_3 {a0 a1 : IR} {env : Env} : ev g_law (.call 3 [a0, a1]) env = (evs g_law [a0, a1] env).bind fun ds e1 => runF e1 (f__law_kept.sem ds) := ev_call rfl rfl rfl
theorem sc_law : FnScope ["_law_script", "_law_state", "_law_kind", "_law_value_here", "_law_e"] ["_law_script"] (defScope (top 33)) := ⟨rfl, rfl, rfl, by decide +kernel, rfl, by decide +kernel, by decide +kernel⟩
theorem ok_law {f : Addr} {fd : FuncData} (F : Fun K "law" "law" (top 33) f fd) (F__law_value : FnF P w K mg base 2 "_law_value" f__law_value) (F__law_caught : FnF P w K mg base 3 "_law_caught" f__law_caught) (F__law_named : FnF P w K mg base 2 "_law_named" f__law_named) (F__law_kept : FnF P w K mg base 1 "_law_kept" f__law_kept) (F__law_kinds : FnF P w K mg base 1 "_law_kinds" f__law_kinds) (F__law_start : FrF P w K mg base 1 "_law_start" f__law_start) (z_range : mg "range" = none) (z_isinstance : mg "isinstance" = none) (z_ValueError : mg "ValueError" = none) (z_int : mg "int" = none) {aI_DayError : Addr} (gI_DayError : mg "DayError" = some (.ref aI_DayError)) (KI_DayError : EisF K tab_DayError (.ref aI_DayError)) (KI_ValueError : EisF K tab_ValueError (.type "ValueError")) :
    FnOk P w K mg base (L2.CX P w) 4 f fd ["_law_script"] (spF K 1 none (semB g_law 5 none b_law)) :=
  have S := sc_law
  fn_body F S (by decide) fun cdv A outer s H E hr =>
    (ss_cons (st_new (ps_set (i := 1) S.nd rfl (by first | exact .inl rfl | exact .inr rfl) (l_call F__law_start rfl (hr.mono (by decide)) (takes_of rfl rfl rfl rfl) rfl (as_cons (e_v (i := 0) rfl (by first | exact .inl rfl | exact .inr (.inl rfl) | exact .inr (.inr rfl)) (by decide) (by decide)) as_nil rfl) rfl) rfl (by first | exact .inl rfl | exact .inr rfl))) (ss_cons (st_for (ps_for (passes_of rfl) rfl (i_rng1 rfl z_range xi rfl) (pg_name (i := 2) S.nd rfl (by first | exact .inl rfl | exact .inr rfl) (by first | exact .inl rfl | exact .inr rfl)) (ss_cons (st_asg (ps_set (i := 3) S.nd rfl (by first | exact .inl rfl | exact .inr rfl) (e_call F__law_value rfl (hr.mono (by decide)) (takes_of rfl rfl rfl rfl) rfl (aa_cons (e_v (i := 0) rfl (by first | exact .inl rfl | exact .inr (.inl rfl) | exact .inr (.inr rfl)) (by decide) (by decide)) (aa_cons (e_v (i := 1) rfl (by first | exact .inl rfl | exact .inr (.inl rfl) | exact .inr (.inr rfl)) (by decide) (by decide)) aa_nil rfl) rfl) rfl) rfl (by first | exact .inl rfl | exact .inr rfl))) (ss_cons (st_asg (ps_set (i := 4) S.nd rfl (by first | exact .inl rfl | exact .inr rfl) (e_call F__law_caught rfl (hr.mono (by decide)) (takes_of rfl rfl rfl rfl) rfl (aa_cons (e_v (i := 2) rfl (by first | exact .inl rfl | exact .inr (.inl rfl) | exact .inr (.inr rfl)) (by decide) (by decide)) (aa_cons (e_v (i := 3) rfl (by first | exact .inl rfl | exact .inr (.inl rfl) | exact .inr (.inr rfl)) (by decide) (by decide)) aa_nil rfl) rfl) rfl) rfl (by first | exact .inl rfl | exact .inr rfl))) (ss_cons (st_if (PW.pt (w_or (y_ne (hu64 hr) (e_call F__law_named rfl (hr.mono (by decide)) (takes_of rfl rfl rfl rfl) rfl (aa_cons (e_v (i := 2) rfl (by first | exact .inl rfl | exact .inr (.inl rfl) | exact .inr (.inr rfl)) (by decide) (by decide)) (aa_cons (e_v (i := 3) rfl (by first | exact .inl rfl | exact .inr (.inl rfl) | exact .inr (.inr rfl)) (by decide) (by decide)) aa_nil rfl) rfl) rfl) (e_v (i := 3) rfl (by first | exact .inl rfl | exact .inr (.inl rfl) | exact .inr (.inr rfl)) (by decide) (by decide))) (w_or1 (y_ne (hu64 hr) (e_call F__law_kept rfl (hr.mono (by decide)) (takes_of rfl rfl rfl rfl) rfl (aa_cons (e_v (i := 2) rfl (by first | exact .inl rfl | exact .inr (.inl rfl) | exact .inr (.inr rfl)) (by decide) (by decide)) (aa_cons (e_v (i := 4) rfl (by first | exact .inl rfl | exact .inr (.inl rfl) | exact .inr (.inr rfl)) (by decide) (by decide)) aa_nil rfl) rfl) rfl) (e_v (i := 3) rfl (by first | exact .inl rfl | exact .inr (.inl rfl) | exact .inr (.inr rfl)) (by decide) (by decide)))))) (ss_cons (st_ret xb) ss_nil) ss_nil) (ss_cons (st_if (PW.pt (w_or (y_ne (hu64 hr) (e_eis KI_DayError (.own _) (e_v (i := 4) rfl (by first | exact .inl rfl | exact .inr (.inl rfl) | exact .inr (.inr rfl)) (by decide) (by decide)) (pe_glob rfl gI_DayError rfl) rfl z_isinstance rfl rfl) (x_lt (e_v (i := 2) rfl (by first | exact .inl rfl | exact .inr (.inl rfl) | exact .inr (.inr rfl)) (by decide) (by decide)) xi)) (w_or1 (y_ne (hu64 hr) (e_eis KI_ValueError (.ty "ValueError") (e_v (i := 4) rfl (by first | exact .inl rfl | exact .inr (.inl rfl) | exact .inr (.inr rfl)) (by decide) (by decide)) (pe_bltn rfl z_ValueError (by decide +kernel) rfl) rfl z_isinstance rfl rfl) (x_lt (e_v (i := 2) rfl (by first | exact .inl rfl | exact .inr (.inl rfl) | exact .inr (.inr rfl)) (by decide) (by decide)) xi))))) (ss_cons (st_ret xb) ss_nil) ss_nil) (ss_cons (st_if (y_ne (hu64 hr) (e_call F__law_kinds rfl (hr.mono (by decide)) (takes_of rfl rfl rfl rfl) rfl (aa_cons (e_v (i := 4) rfl (by first | exact .inl rfl | exact .inr (.inl rfl) | exact .inr (.inr rfl)) (by decide) (by decide)) aa_nil rfl) rfl) (e_sl (e_lst (as_cons (e_v (i := 2) rfl (by first | exact .inl rfl | exact .inr (.inl rfl) | exact .inr (.inr rfl)) (by decide) (by decide)) as_nil rfl)) po_none' (po_some' (b_int z_int rfl (x_lt (e_v (i := 2) rfl (by first | exact .inl rfl | exact .inr (.inl rfl) | exact .inr (.inr rfl)) (by decide) (by decide)) xi) rfl)))) (ss_cons (st_ret xb) ss_nil) ss_nil) ss_nil))))) (fun _ => rfl))) (ss_cons (st_ret xb) ss_nil)))
end
end Mp
set_option maxHeartbeats 4000000
namespace Mp
/-- at most a minute -/
def atM (m : Option Nat) (y : Nat) : Prop := ∃ a, m = some a ∧ a ≤ y
instance (m : Option Nat) (y : Nat) : Decidable (atM m y) := match m with
  | none => .isFalse (by rintro ⟨a, h, _⟩; cases h)
  | some a => if h : a ≤ y then .isTrue ⟨a, rfl, h⟩ else .isFalse (by rintro ⟨b, h1, h2⟩; cases h1; exact h h2)
def leM (a b : Option Nat) : Prop := ∀ y, atM b y → atM a y
theorem leM.rfl' (a : Option Nat) : leM a a := fun _ h => h
theorem leM.tr {a b c : Option Nat} (h : leM a b) (k : leM b c) : leM a c := fun y z => h y (k y z)
inductive LeL : List (Option Nat) → List (Option Nat) → Prop where
  | nil : LeL [] []
  | cons {a b as bs} : leM a b → LeL as bs → LeL (a :: as) (b :: bs)
theorem LeL.len {as bs} (h : LeL as bs) : as.length = bs.length := by
  induction h with
  | nil => rfl
  | cons _ _ ih => simp [ih]
abbrev Row := List (Option Nat × Option Nat)
inductive RowLe : Row → Row → Prop where
  | nil : RowLe [] []
  | cons {p q r s} : leM p.1 q.1 → leM p.2 q.2 → RowLe r s → RowLe (p :: r) (q :: s)
theorem RowLe.len {r s} (h : RowLe r s) : r.length = s.length := by
  induction h with
  | nil => rfl
  | cons _ _ _ ih => simp [ih]
theorem RowLe.app {r s p q} (h : RowLe r s) (h1 : leM p.1 q.1) (h2 : leM p.2 q.2) : RowLe (r ++ [p]) (s ++ [q]) := by
  induction h with
  | nil => exact .cons h1 h2 .nil
  | cons a b _ ih => exact .cons a b ih
inductive LeP : List (Option Nat × Nat) → List (Option Nat × Nat) → Prop where
  | nil : LeP [] []
  | cons {p q r s} : leM p.1 q.1 → p.2 ≤ q.2 → LeP r s → LeP (p :: r) (q :: s)
theorem LeP.zip : ∀ {as bs} (_ : LeL as bs) {ns ms : List Nat} (_ : ns.length = ms.length) (_ : ∀ (i : Nat) (a b : Nat), ns[i]? = some a → ms[i]? = some b → a ≤ b), LeP (as.zip ns) (bs.zip ms)
  | _, _, .nil, _, _, _, _ => .nil
  | _, _, .cons _ _, [], [], _, _ => .nil
  | _, _, .cons h1 h2, n :: ns, m :: ms, hl, h => .cons h1 (h 0 n m rfl rfl) (LeP.zip h2 (by simpa using hl) fun i a b x y => h (i + 1) a b x y)
  | _, _, .cons _ _, [], _ :: _, hl, _ => by cases hl
  | _, _, .cons _ _, _ :: _, [], hl, _ => by cases hl
theorem LeL.get {as bs} (h : LeL as bs) : ∀ p : Nat, leM ((as[p]?).getD none) ((bs[p]?).getD none) := by
  induction h with
  | nil => exact fun p => leM.rfl' _
  | cons h1 h2 ih => intro p; cases p with
    | zero => exact h1
    | succ p => exact ih p
end Mp
set_option maxHeartbeats 4000000
namespace Mp
open PySem L2
variable [TabsW] [GdW]
/-- a slot's content that may be overwritten -/
def frC : Option Cell → Bool
  | some (.io _) => false
  | some (.slf _ _ _) => false
  | _ => true
theorem freeB_eq (env : Env) (i : Nat) : freeB env i = match env[i]? with
    | some x => frC x
    | none => false := by
  unfold freeB
  cases env[i]? with
  | none => rfl
  | some x => cases x with
    | none => rfl
    | some c => cases c <;> rfl
@[simp] theorem frC_none : frC none = true := rfl
@[simp] theorem frC_dat (d) : frC (some (.dat d)) = true := rfl
@[simp] theorem frC_own (d) : frC (some (.own d)) = true := rfl
theorem takeD_v {G : Ctx} {i : Nat} {C : D} {env : Env} (hv : env[i]? = some (some (.dat C))) : (ev G (.v i) env).take = .ok C env := by
  rw [ev]; unfold cellAt; rw [hv]; rfl
/-- a call whose second argument is a list that it changes -/
theorem ev_io1 {G : Ctx} {j i s : Nat} {f : Fn} {es : List IR} {env : Env} {ds vs : List D} {S : D} (hj : G.fns[j]? = some f) (hio : f.io = some 1) (hn : es.length + 2 = f.n) (hs : env[s]? = some (some (.dat S))) (hi : env[i]? = some (some (.own ds)) ∨ env[i]? = some (some (.io ds)))
    (he : evs G es env = .ok vs env) : ev G (.call j (.v s :: .v i :: es)) env = frR env (some 1) [i] (f.sem (S :: .lst ds :: vs)) := by
  rw [ev, hj]
  dsimp only
  rw [if_pos (by rw [List.length_cons, List.length_cons]; exact hn), hio, eva, if_neg (by decide), takeD_v hs]
  have hv : ev G (.v i) env = .ok (.pl i) env := by
    rw [ev]
    unfold cellAt
    rcases hi with h | h <;> (rw [h]; rfl)
  show ((eva G (some 1) 1 (.v i :: es) env).bind fun p e2 => R.ok (Opd.val S :: p.1, p.2) e2).bind _ = _
  rw [eva, if_pos rfl, hv]
  show (((eva G (some 1) 2 es env).bind fun p e2 => R.ok (Opd.pl i :: p.1, i :: p.2) e2).bind fun p e2 => R.ok (Opd.val S :: p.1, p.2) e2).bind _ = _
  rw [eva_vals es 2 env fun i z => by cases z; decide, he]
  show (match (Opd.val S :: Opd.pl i :: vs.map Opd.val).mapM (rdO env) with
      | some ds => frR env (some 1) [i] (f.sem ds)
      | none => .bad) = _
  rw [List.mapM_cons, List.mapM_cons, rd_vals]
  have hc : (cellAt env i).map content = some (.lst ds) := by
    unfold cellAt
    rcases hi with h | h <;> (rw [h]; rfl)
  show (match (do let r ← some S; let rs ← (do let r ← (cellAt env i).map content; let rs ← some vs; pure (r :: rs)); pure (r :: rs)) with
      | some ds => frR env (some 1) [i] (f.sem ds)
      | none => R.bad) = _
  rw [hc]; rfl
theorem own_call1 {G : Ctx} {j i s : Nat} {f : Fn} {es : List IR} {env : Env} {ds out vs : List D} {S d : D} (hj : G.fns[j]? = some f) (hio : f.io = some 1) (hn : es.length + 2 = f.n) (hs : env[s]? = some (some (.dat S))) (hi : env[i]? = some (some (.own ds)))
    (he : evs G es env = .ok vs env) (h : f.sem (S :: .lst ds :: vs) = .ok d out) : ev G (.call j (.v s :: .v i :: es)) env = .ok (.val d) (env.set i (some (.own out))) := by
  rw [ev_io1 hj hio hn hs (.inl hi) he, h]
  unfold frR
  have hc : cellAt env i = some (.own ds) := by unfold cellAt; rw [hi]; rfl
  dsimp only
  rw [hc]
theorem io_call1 {G : Ctx} {j i s : Nat} {f : Fn} {es : List IR} {env : Env} {ds out vs : List D} {S d : D} (hj : G.fns[j]? = some f) (hio : f.io = some 1) (hn : es.length + 2 = f.n) (hs : env[s]? = some (some (.dat S))) (hi : env[i]? = some (some (.io ds)))
    (he : evs G es env = .ok vs env) (h : f.sem (S :: .lst ds :: vs) = .ok d out) : ev G (.call j (.v s :: .v i :: es)) env = .ok (.val d) (env.set i (some (.io out))) := by
  rw [ev_io1 hj hio hn hs (.inr hi) he, h]
  unfold frR
  have hc : cellAt env i = some (.io ds) := by unfold cellAt; rw [hi]; rfl
  dsimp only
  rw [hc]
end Mp
set_option maxHeartbeats 4000000
namespace Mp
open PySem L2
variable [TabsW] [GdW]
theorem nm_0 (v : D) : f__law_named.sem [.int 0, v] = .ok v [] := by kernel_rfl
theorem kp_0 (v : D) : f__law_kept.sem [.int 0, .err "BadPart" "part" v] = .ok v [] := by kernel_rfl
theorem ct_0 (v : D) : f__law_caught.sem [.int 0, v] = .ok (.err "BadPart" "part" v) [] := by kernel_rfl
theorem nm_1 (v : D) : f__law_named.sem [.int 1, v] = .ok v [] := by kernel_rfl
theorem kp_1 (v : D) : f__law_kept.sem [.int 1, .err "BadNumber" "number" v] = .ok v [] := by kernel_rfl
theorem ct_1 (v : D) : f__law_caught.sem [.int 1, v] = .ok (.err "BadNumber" "number" v) [] := by kernel_rfl
theorem nm_2 (v : D) : f__law_named.sem [.int 2, v] = .ok v [] := by kernel_rfl
theorem kp_2 (v : D) : f__law_kept.sem [.int 2, .err "BadIndex" "index" v] = .ok v [] := by kernel_rfl
theorem ct_2 (v : D) : f__law_caught.sem [.int 2, v] = .ok (.err "BadIndex" "index" v) [] := by kernel_rfl
theorem nm_3 (v : D) : f__law_named.sem [.int 3, v] = .ok v [] := by kernel_rfl
theorem kp_3 (v : D) : f__law_kept.sem [.int 3, .err "BadName" "name" v] = .ok v [] := by kernel_rfl
theorem ct_3 (v : D) : f__law_caught.sem [.int 3, v] = .ok (.err "BadName" "name" v) [] := by kernel_rfl
theorem nm_4 (v : D) : f__law_named.sem [.int 4, v] = .ok v [] := by kernel_rfl
theorem kp_4 (v : D) : f__law_kept.sem [.int 4, .err "BadKey" "key" v] = .ok v [] := by kernel_rfl
theorem ct_4 (v : D) : f__law_caught.sem [.int 4, v] = .ok (.err "BadKey" "key" v) [] := by kernel_rfl
theorem nm_5 (v : D) : f__law_named.sem [.int 5, v] = .ok v [] := by kernel_rfl
theorem kp_5 (v : D) : f__law_kept.sem [.int 5, .err "BadErrand" "index" v] = .ok v [] := by kernel_rfl
theorem ct_5 (v : D) : f__law_caught.sem [.int 5, v] = .ok (.err "BadErrand" "index" v) [] := by kernel_rfl
theorem nm_6 (v : D) : f__law_named.sem [.int 6, v] = .ok v [] := by kernel_rfl
theorem kp_6 (v : D) : f__law_kept.sem [.int 6, .err "BadOrder" "name" v] = .ok v [] := by kernel_rfl
theorem ct_6 (v : D) : f__law_caught.sem [.int 6, v] = .ok (.err "BadOrder" "name" v) [] := by kernel_rfl
theorem nm_7 (v : D) : f__law_named.sem [.int 7, v] = .ok v [] := by kernel_rfl
theorem kp_7 (v : D) : f__law_kept.sem [.int 7, .err "NoWay" "pair" v] = .ok v [] := by kernel_rfl
theorem ct_7 (v : D) : f__law_caught.sem [.int 7, v] = .ok (.err "NoWay" "pair" v) [] := by kernel_rfl
theorem nm_8 (v : D) : f__law_named.sem [.int 8, v] = .ok v [] := by kernel_rfl
theorem kp_8 (v : D) : f__law_kept.sem [.int 8, .err "Ring" "ring" v] = .ok v [] := by kernel_rfl
theorem ct_8 (v : D) : f__law_caught.sem [.int 8, v] = .ok (.err "Ring" "ring" v) [] := by kernel_rfl
theorem nm_9 (v : D) : f__law_named.sem [.int 9, v] = .ok v [] := by kernel_rfl
theorem kp_9 (v : D) : f__law_kept.sem [.int 9, .err "BadThing" "thing" v] = .ok v [] := by kernel_rfl
theorem ct_9 (v : D) : f__law_caught.sem [.int 9, v] = .ok (.err "BadThing" "thing" v) [] := by kernel_rfl
theorem nm_10 (v : D) : f__law_named.sem [.int 10, v] = .ok v [] := by kernel_rfl
theorem kp_10 (v : D) : f__law_kept.sem [.int 10, .err "NotSo" "word" v] = .ok v [] := by kernel_rfl
theorem ct_10 (v : D) : f__law_caught.sem [.int 10, v] = .ok (.err "NotSo" "word" v) [] := by kernel_rfl
theorem nm_11 (v : D) : f__law_named.sem [.int 11, v] = .ok v [] := by kernel_rfl
theorem kp_11 (v : D) : f__law_kept.sem [.int 11, .err "BadPaper" "reason" v] = .ok v [] := by kernel_rfl
theorem ct_11 (v : D) : f__law_caught.sem [.int 11, v] = .ok (.err "BadPaper" "reason" v) [] := by kernel_rfl
theorem nm_12 (v : D) : f__law_named.sem [.int 12, v] = .ok v [] := by kernel_rfl
theorem kp_12 (v : D) : f__law_kept.sem [.int 12, .err "BadTiding" "index" v] = .ok v [] := by kernel_rfl
theorem ct_12 (v : D) : f__law_caught.sem [.int 12, v] = .ok (.err "BadTiding" "index" v) [] := by kernel_rfl
theorem nm_13 (v : D) : f__law_named.sem [.int 13, v] = .ok v [] := by kernel_rfl
theorem kp_13 (v : D) : f__law_kept.sem [.int 13, .err "BadMenu" "index" v] = .ok v [] := by kernel_rfl
theorem ct_13 (v : D) : f__law_caught.sem [.int 13, v] = .ok (.err "BadMenu" "index" v) [] := by kernel_rfl
theorem nm_14 (v : D) : f__law_named.sem [.int 14, v] = .ok v [] := by kernel_rfl
theorem kp_14 (v : D) : f__law_kept.sem [.int 14, .err "BadText" "line" v] = .ok v [] := by kernel_rfl
theorem ct_14 (v : D) : f__law_caught.sem [.int 14, v] = .ok (.err "BadText" "line" v) [] := by kernel_rfl
theorem nm_15 (v : D) : f__law_named.sem [.int 15, v] = .ok v [] := by kernel_rfl
theorem kp_15 (v : D) : f__law_kept.sem [.int 15, .err "BadDeed" "index" v] = .ok v [] := by kernel_rfl
theorem ct_15 (v : D) : f__law_caught.sem [.int 15, v] = .ok (.err "BadDeed" "index" v) [] := by kernel_rfl
theorem nm_16 (v : D) : f__law_named.sem [.int 16, v] = .ok v [] := by kernel_rfl
theorem kp_16 (v : D) : f__law_kept.sem [.int 16, .err "Promised" "key" v] = .ok v [] := by kernel_rfl
theorem ct_16 (v : D) : f__law_caught.sem [.int 16, v] = .ok (.err "Promised" "key" v) [] := by kernel_rfl
theorem nm_17 (v : D) : f__law_named.sem [.int 17, v] = .ok v [] := by kernel_rfl
theorem kp_17 (v : D) : f__law_kept.sem [.int 17, .err "Fixed" "key" v] = .ok v [] := by kernel_rfl
theorem ct_17 (v : D) : f__law_caught.sem [.int 17, v] = .ok (.err "Fixed" "key" v) [] := by kernel_rfl
theorem nm_18 (v : D) : f__law_named.sem [.int 18, v] = .ok v [] := by kernel_rfl
theorem kp_18 (v : D) : f__law_kept.sem [.int 18, .err "TooMany" "limit" v] = .ok v [] := by kernel_rfl
theorem ct_18 (v : D) : f__law_caught.sem [.int 18, v] = .ok (.err "TooMany" "limit" v) [] := by kernel_rfl
theorem nm_19 (v : D) : f__law_named.sem [.int 19, v] = .ok v [] := by kernel_rfl
theorem kp_19 (v : D) : f__law_kept.sem [.int 19, .err "NothingToUndo" "name" v] = .ok v [] := by kernel_rfl
theorem ct_19 (v : D) : f__law_caught.sem [.int 19, v] = .ok (.err "NothingToUndo" "name" v) [] := by kernel_rfl
end Mp
set_option maxHeartbeats 4000000
namespace Mp
open PySem L2
variable [TabsW] [GdW]
/-- the state of the draws -/
def st4 (a b c d : Int) : List D := [.int a, .int b, .int c, .int d]
theorem s_draw (ns : List Int) (a b c d : Int) (m : Nat) (h0 : 0 < m) (h1 : m < 1073741824) : ∃ (r : Nat) (a' b' c' d' : Int), r < m ∧ f__law_draw.sem [.lst (ns.map .int), .lst (st4 a b c d), .int m] = .ok (.int r) (st4 a' b' c' d') := by
  have ht : (0 : Int) < (m : Int) := by omega
  have ht2 : (m : Int) < 1073741824 := by omega
  have gi (i : Int) : bltD .int [.int i] = some (.int i) := rfl
  have LE : bltD .len [.lst (ns.map .int)] = some (.int (ns.length : Int)) := by show some (D.int ((ns.map D.int).length : Int)) = _; rw [List.length_map]
  have eqi (i j : Int) : cmpD .eq (.int i) (.int j) = some (i == j) := rfl
  have gti (i j : Int) : cmpD .gt (.int i) (.int j) = some (decide (j < i)) := rfl
  have g0 (x y z w : Int) : atI [D.int x, D.int y, D.int z, D.int w] 0 = some (.int x) := rfl
  have g1 (x y z w : Int) : atI [D.int x, D.int y, D.int z, D.int w] 1 = some (.int y) := rfl
  have g2 (x y z w : Int) : atI [D.int x, D.int y, D.int z, D.int w] 2 = some (.int z) := rfl
  have g3 (x y z w : Int) : atI [D.int x, D.int y, D.int z, D.int w] 3 = some (.int w) := rfl
  generalize hS : ns.map D.int = S at LE
  by_cases hA : b = 1 ∧ 0 < a
  · obtain ⟨rfl, ha⟩ := hA
    refine ⟨(a % m).toNat, a / m, 1, c, d + 1, ?_, ?_⟩
    · have := Int.emod_lt_of_pos a ht
      have := Int.emod_nonneg a (Int.ne_of_gt ht)
      omega
    · have e : (((a % m).toNat : Nat) : Int) = a % m := Int.toNat_of_nonneg (Int.emod_nonneg a (Int.ne_of_gt ht))
      show semB g__law_draw 6 (some 1) b__law_draw [.lst S, .lst (st4 a 1 c d), .int m] = _
      unfold semB b__law_draw
      rw [e]
      simp [evSs, evS, evs, evr, truR, startE, cellsF, cellF, evq_c, evq_v, evq_bin, evq_cmp, evq_chn, evq_and_, evq_or_, evq_not_, evq_neg, evq_ite, evq_tup, evq_lst, evq_ix, evq_blt, evq_isin, Mp.R.bind, Mp.R.take, Mp.R.toS, SR.seq, takeO, rdO, cellAt, content, truD, runF, outE, lift, st4, ixD, g0, g1, g2, g3, eqi, gti, ha, gi, binD, modD, fdivD, addD, ht, ht2, h0, h1, bindT, freeB_eq, placeB, R.rd]
  · have hx : ∃ x : Int, (0 < ns.length → atI S (c % (ns.length : Int)) = some (.int x)) ∧ (ns.length = 0 → x = 0) := by
      by_cases hn : 0 < ns.length
      · have p0 : 0 ≤ c % (ns.length : Int) := Int.emod_nonneg _ (by omega)
        have p1 : c % (ns.length : Int) < ns.length := Int.emod_lt_of_pos _ (by omega)
        obtain ⟨k, hk⟩ := Int.eq_ofNat_of_zero_le p0
        have hk2 : k < ns.length := by rw [hk] at p1; exact_mod_cast p1
        refine ⟨ns[k], fun _ => ?_, fun z => by omega⟩
        rw [hk, ← hS]
        unfold atI
        rw [ix_in' (by omega) (by simp; omega)]
        show (ns.map D.int)[(k : Int).toNat]? = _
        rw [Int.toNat_natCast, List.getElem?_map, List.getElem?_eq_getElem hk2]
        rfl
      · exact ⟨0, fun z => absurd z hn, fun _ => rfl⟩
    obtain ⟨x, hx1, hx2⟩ := hx
    have hb : ((b == 1) && decide (0 < a)) = false := by
      rw [Bool.and_eq_false_iff]
      by_cases h : b = 1
      · exact .inr (decide_eq_false fun z => hA ⟨h, z⟩)
      · exact .inl (by simpa using h)
    let q : Int := a % 2147483647 * 48271 + x % 2147483629 + 7 * (d + 1) + 11
    let a' : Int := q % 2147483647
    let w : Int := (a' * 69621 + (d + 1)) % 2147483629
    refine ⟨(w / 13 % m).toNat, a', 0, c + 1, d + 1, ?_, ?_⟩
    · have := Int.emod_lt_of_pos (w / 13) ht
      have := Int.emod_nonneg (w / 13) (Int.ne_of_gt ht)
      omega
    · have e : (((w / 13 % m).toNat : Nat) : Int) = w / 13 % m := Int.toNat_of_nonneg (Int.emod_nonneg _ (Int.ne_of_gt ht))
      show semB g__law_draw 6 (some 1) b__law_draw [.lst S, .lst (st4 a b c d), .int m] = _
      unfold semB b__law_draw
      rw [e]
      have m1 (i : Int) : mulD (.int i) (.int 48271) = some (.int (i * 48271)) := by unfold mulD; exact if_pos (.inr (by decide))
      have m2 (i : Int) : mulD (.int i) (.int 69621) = some (.int (i * 69621)) := by unfold mulD; exact if_pos (.inr (by decide))
      have m3 (i : Int) : mulD (.int 7) (.int i) = some (.int (7 * i)) := by unfold mulD; exact if_pos (.inl (by decide))
      have c7 : (0 : Int) < 2147483647 := by decide
      have c8 : (0 : Int) < 2147483629 := by decide
      by_cases hn : 0 < ns.length
      · have hx := hx1 hn
        have hn2 : (0 : Int) < (ns.length : Int) := by omega
        by_cases h : b = 1
        · have ha : ¬ 0 < a := fun z => hA ⟨h, z⟩
          subst h
          simp [evSs, evS, evs, evr, truR, startE, cellsF, cellF, evq_c, evq_v, evq_bin, evq_cmp, evq_chn, evq_and_, evq_or_, evq_not_, evq_neg, evq_ite, evq_tup, evq_lst, evq_ix, evq_blt, evq_isin, Mp.R.bind, Mp.R.take, Mp.R.toS, SR.seq, takeO, rdO, cellAt, content, truD, runF, outE, lift, st4, ixD, g0, g1, g2, g3, eqi, gti, ha, gi, binD, modD, fdivD, addD, ht, ht2, h0, h1, bindT, freeB_eq, placeB, R.rd, LE, hn, hn2, hx, m1, m2, m3, q, a', w]
        · have h : (b == 1) = false := by simpa using h
          simp [evSs, evS, evs, evr, truR, startE, cellsF, cellF, evq_c, evq_v, evq_bin, evq_cmp, evq_chn, evq_and_, evq_or_, evq_not_, evq_neg, evq_ite, evq_tup, evq_lst, evq_ix, evq_blt, evq_isin, Mp.R.bind, Mp.R.take, Mp.R.toS, SR.seq, takeO, rdO, cellAt, content, truD, runF, outE, lift, st4, ixD, g0, g1, g2, g3, eqi, gti, h, gi, binD, modD, fdivD, addD, ht, ht2, h0, h1, bindT, freeB_eq, placeB, R.rd, LE, hn, hn2, hx, m1, m2, m3, q, a', w]
      · have hz : ns.length = 0 := by omega
        have hx := hx2 hz
        subst hx
        by_cases h : b = 1
        · have ha : ¬ 0 < a := fun z => hA ⟨h, z⟩
          subst h
          simp [evSs, evS, evs, evr, truR, startE, cellsF, cellF, evq_c, evq_v, evq_bin, evq_cmp, evq_chn, evq_and_, evq_or_, evq_not_, evq_neg, evq_ite, evq_tup, evq_lst, evq_ix, evq_blt, evq_isin, Mp.R.bind, Mp.R.take, Mp.R.toS, SR.seq, takeO, rdO, cellAt, content, truD, runF, outE, lift, st4, ixD, g0, g1, g2, g3, eqi, gti, ha, gi, binD, modD, fdivD, addD, ht, ht2, h0, h1, bindT, freeB_eq, placeB, R.rd, LE, hz, m1, m2, m3, q, a', w]
        · have h : (b == 1) = false := by simpa using h
          simp [evSs, evS, evs, evr, truR, startE, cellsF, cellF, evq_c, evq_v, evq_bin, evq_cmp, evq_chn, evq_and_, evq_or_, evq_not_, evq_neg, evq_ite, evq_tup, evq_lst, evq_ix, evq_blt, evq_isin, Mp.R.bind, Mp.R.take, Mp.R.toS, SR.seq, takeO, rdO, cellAt, content, truD, runF, outE, lift, st4, ixD, g0, g1, g2, g3, eqi, gti, h, gi, binD, modD, fdivD, addD, ht, ht2, h0, h1, bindT, freeB_eq, placeB, R.rd, LE, hz, m1, m2, m3, q, a', w]
theorem s_start (ns : List Int) : ∃ a b c d : Int, f__law_start.sem [.lst (ns.map .int)] = .ok (.lst (st4 a b c d)) [] := by
  have LE : bltD .len [.lst (ns.map .int)] = some (.int (ns.length : Int)) := by show some (D.int ((ns.map D.int).length : Int)) = _; rw [List.length_map]
  have gti (i j : Int) : cmpD .gt (.int i) (.int j) = some (decide (j < i)) := rfl
  have gei (i j : Int) : cmpD .ge (.int i) (.int j) = some (decide (j ≤ i)) := rfl
  have gi (i : Int) : bltD .int [.int i] = some (.int i) := rfl
  have gb (i : Bool) : bltD .int [.bl i] = some (.int (if i then 1 else 0)) := rfl
  have ga (i : Int) : bltD .abs [.int i] = some (.int (if i < 0 then -i else i)) := rfl
  have pw : powD (.int 10) (.int 18) = some (.int (10 ^ 18)) := rfl
  have hB : 4 ≤ BIG := by decide
  cases ns with
  | nil => exact ⟨0, 0, 1, 0, by kernel_rfl⟩
  | cons n ns =>
    refine ⟨if n < 0 then -n else n, if (decide ((10 : Int) ^ 18 ≤ (if n < 0 then -n else n))) = true then 1 else 0, 1, 0, ?_⟩
    have g0 (l : List D) : atI (D.int n :: l) 0 = some (.int n) := by
      unfold atI
      rw [ix_in' (by omega) (by simp)]; rfl
    have hn : (0 : Int) < ((n :: ns).length : Int) := by simp
    show semBF g__law_start 2 b__law_start [.lst ((n :: ns).map .int)] = _
    generalize hS : (n :: ns).map D.int = S at LE
    have g0' : atI S 0 = some (.int n) := by rw [← hS]; exact g0 _
    unfold semBF b__law_start
    simp [evSs, evS, evs, evr, truR, startE, cellsF, cellF, evq_c, evq_v, evq_bin, evq_cmp, evq_chn, evq_and_, evq_or_, evq_not_, evq_neg, evq_ite, evq_tup, evq_lst, evq_ix, evq_blt, evq_isin, Mp.R.bind, Mp.R.take, Mp.R.toS, SR.seq, takeO, rdO, cellAt, content, truD, runF, outE, lift, st4, ixD, g0', LE, gti, gei, hn, gi, gb, ga, pw, binD, bindT, freeB_eq, R.rd, evL, hB]
end Mp
set_option maxHeartbeats 4000000
namespace Mp
open PySem L2
variable [TabsW] [GdW]
section
variable {G : Ctx}
theorem bind_nm {E : Env} {i : Nat} {x : Option Cell} {d : D} (h : E[i]? = some x) (hx : frC x = true) : bindT (.name i) d E = some (E.set i (some (.dat d))) := by
  unfold bindT
  dsimp only
  rw [freeB_eq, h]
  exact if_pos hx
theorem t_newc {G : Ctx} {i j : Nat} {es : List IR} {E E1 : Env} {f : Fn} {vs ds : List D} {out : List D} {x : Option Cell} (hf : G.frs[j]? = some f) (hn : es.length = f.n) (he : evs G es E = .ok vs E1) (hs : f.sem vs = .ok (.lst ds) out) (hl : ds.length ≤ BIG) (hi : E1[i]? = some x) (hx : frC x = true) : evS G (.new i (.call j es)) E = .nx (E1.set i (some (.own ds))) := by
  rw [evS, evL, hf]
  dsimp only
  rw [if_pos hn, he, R.bind_ok, hs]
  have hfr : freeB E1 i = true := by rw [freeB_eq, hi]; exact hx
  exact if_pos ⟨hl, hfr⟩
theorem evi_rng1 {G : Ctx} {e : IR} {E E1 : Env} {n : Nat} (h : ev G e E = .ok (.val (.int (n : Int))) E1) (hn : n ≤ 1000000) : evi G (.rng1 e) E = .ok ((List.range' 0 n).map fun k : Nat => D.int (k : Int)) E1 := by
  rw [← show iotaD ((0 : Nat) : Int) n = _ from iota_map' 0 n, evi, h]
  show (if -1000000 ≤ (n : Int) ∧ (n : Int) ≤ 1000000 then R.ok (iotaD 0 (n : Int).toNat) E1 else .bad) = _
  rw [if_pos (by omega), Int.toNat_natCast]
  rfl
end
end Mp
set_option maxHeartbeats 4000000
namespace Mp
open PySem L2
variable [TabsW] [GdW]
def VOk (v : D) : Prop := dataD 20 v = true
theorem sem_io1 {G : Ctx} {m : Nat} {b : List ST} {ds out : List D} {d : D} {e : Env} (h : evSs G b (startE (some 1) m ds) = .rt d e) (ho : e[1]? = some (some (.io out))) : semB G m (some 1) b ds = .ok d out := by
  unfold semB
  rw [h]
  show (match outE (some 1) e with
    | some out => FR.ok d out
    | none => .bad) = _
  have : outE (some 1) e = some out := by
    unfold outE
    simp [cellAt, ho]
  rw [this]
theorem s_value (ns : List Int) (a b c d : Int) : ∃ (v : D) (a' b' c' d' : Int), VOk v ∧ f__law_value.sem [.lst (ns.map .int), .lst (st4 a b c d)] = .ok v (st4 a' b' c' d') := by
  obtain ⟨r, a1, b1, c1, d1, hr, q1⟩ := s_draw ns a b c d 4 (by decide) (by decide)
  obtain ⟨r4, a4, b4, c4, d4, hr4, q4⟩ := s_draw ns a1 b1 c1 d1 4 (by decide) (by decide)
  obtain ⟨r5, a5, b5, c5, d5, hr5, q5⟩ := s_draw ns a1 b1 c1 d1 5 (by decide) (by decide)
  obtain ⟨r6, a6, b6, c6, d6, hr6, q6⟩ := s_draw ns a1 b1 c1 d1 1000000 (by decide) (by decide)
  show ∃ (v : D) (a' b' c' d' : Int), VOk v ∧ semB g__law_value 3 (some 1) b__law_value [.lst (ns.map .int), .lst (st4 a b c d)] = .ok v (st4 a' b' c' d')
  generalize D.lst (ns.map .int) = S at q1 q4 q5 q6 ⊢
  have C1 : ev g__law_value (.call 0 [.v 0, .v 1, .c (.int 4)]) [some (.dat S), some (.io (st4 a b c d)), none] = .ok (.val (.int (r : Int))) [some (.dat S), some (.io (st4 a1 b1 c1 d1)), none] := io_call1 (f := f__law_draw) rfl rfl rfl rfl rfl (evs1 x_c) q1
  have T1 : evS g__law_value (.asg (.name 2) (.call 0 [.v 0, .v 1, .c (.int 4)])) [some (.dat S), some (.io (st4 a b c d)), none] = .nx [some (.dat S), some (.io (st4 a1 b1 c1 d1)), some (.dat (.int (r : Int)))] := t_asg C1 (bind_nm (x := none) rfl rfl)
  have C4 : ev g__law_value (.call 0 [.v 0, .v 1, .c (.int 4)]) [some (.dat S), some (.io (st4 a1 b1 c1 d1)), some (.dat (.int (r : Int)))] = .ok (.val (.int (r4 : Int))) [some (.dat S), some (.io (st4 a4 b4 c4 d4)), some (.dat (.int (r : Int)))] := io_call1 (f := f__law_draw) rfl rfl rfl rfl rfl (evs1 x_c) q4
  have C5 : ev g__law_value (.call 0 [.v 0, .v 1, .c (.int 5)]) [some (.dat S), some (.io (st4 a1 b1 c1 d1)), some (.dat (.int (r : Int)))] = .ok (.val (.int (r5 : Int))) [some (.dat S), some (.io (st4 a5 b5 c5 d5)), some (.dat (.int (r : Int)))] := io_call1 (f := f__law_draw) rfl rfl rfl rfl rfl (evs1 x_c) q5
  have C6 : ev g__law_value (.call 0 [.v 0, .v 1, .bin .pow (.c (.int 10)) (.c (.int 6))]) [some (.dat S), some (.io (st4 a1 b1 c1 d1)), some (.dat (.int (r : Int)))] = .ok (.val (.int (r6 : Int))) [some (.dat S), some (.io (st4 a6 b6 c6 d6)), some (.dat (.int (r : Int)))] := io_call1 (f := f__law_draw) rfl rfl rfl rfl rfl (evs1 (x_bin x_c x_c rfl)) q6
  have F0 : r ≠ 0 → evS g__law_value (.if_ (.cmp .eq (.v 2) (.c (.int 0))) [.ret (.c .non)] []) [some (.dat S), some (.io (st4 a1 b1 c1 d1)), some (.dat (.int (r : Int)))] = .nx [some (.dat S), some (.io (st4 a1 b1 c1 d1)), some (.dat (.int (r : Int)))] := fun h => t_if_f0 (x_cmp (x_v rfl) x_c (by show some ((r : Int) == 0) = some false; rw [beq_eq_false_iff_ne.mpr (by omega)]))
  have F1 : r ≠ 1 → evS g__law_value (.if_ (.cmp .eq (.v 2) (.c (.int 1))) [.ret (.bin .sub (.call 0 [.v 0, .v 1, .bin .pow (.c (.int 10)) (.c (.int 6))]) (.c (.int 1000)))] []) [some (.dat S), some (.io (st4 a1 b1 c1 d1)), some (.dat (.int (r : Int)))] = .nx [some (.dat S), some (.io (st4 a1 b1 c1 d1)), some (.dat (.int (r : Int)))] := fun h => t_if_f0 (x_cmp (x_v rfl) x_c (by show some ((r : Int) == 1) = some false; rw [beq_eq_false_iff_ne.mpr (by omega)]))
  have F2 : r ≠ 2 → evS g__law_value (.if_ (.cmp .eq (.v 2) (.c (.int 2))) [.ret (.tup [.c (.str "ann"), .call 0 [.v 0, .v 1, .c (.int 5)], .c (.str "ends")])] []) [some (.dat S), some (.io (st4 a1 b1 c1 d1)), some (.dat (.int (r : Int)))] = .nx [some (.dat S), some (.io (st4 a1 b1 c1 d1)), some (.dat (.int (r : Int)))] := fun h => t_if_f0 (x_cmp (x_v rfl) x_c (by show some ((r : Int) == 2) = some false; rw [beq_eq_false_iff_ne.mpr (by omega)]))
  have cases4 : r = 0 ∨ r = 1 ∨ r = 2 ∨ r = 3 := by omega
  rcases cases4 with h | h | h | h
  · refine ⟨.non, a1, b1, c1, d1, rfl, sem_io1 (e := [some (.dat S), some (.io (st4 a1 b1 c1 d1)), some (.dat (.int (r : Int)))]) ((ss_nx T1).trans (ss_rt ?_)) rfl⟩
    exact (t_if_t (x_cmp (x_v rfl) x_c (by subst h; rfl)) rfl).trans (ss_rt (t_ret x_c))
  · refine ⟨.int ((r6 : Int) - 1000), a6, b6, c6, d6, rfl, sem_io1 (e := [some (.dat S), some (.io (st4 a6 b6 c6 d6)), some (.dat (.int (r : Int)))]) ((ss_nx T1).trans ((ss_nx (F0 (by omega))).trans (ss_rt ?_))) rfl⟩
    exact (t_if_t (x_cmp (x_v rfl) x_c (by subst h; rfl)) rfl).trans (ss_rt (t_ret (x_bin C6 x_c rfl)))
  · refine ⟨.tup [.str "ann", .int (r5 : Int), .str "ends"], a5, b5, c5, d5, dataD_tup (fun x hx => by
    simp only [List.mem_cons, List.not_mem_nil, or_false] at hx
    rcases hx with rfl | rfl | rfl
    · kernel_rfl
    · simp [dataD]
    · kernel_rfl), sem_io1 (e := [some (.dat S), some (.io (st4 a5 b5 c5 d5)), some (.dat (.int (r : Int)))]) ((ss_nx T1).trans ((ss_nx (F0 (by omega))).trans ((ss_nx (F1 (by omega))).trans (ss_rt ?_)))) rfl⟩
    exact (t_if_t (x_cmp (x_v rfl) x_c (by subst h; rfl)) rfl).trans (ss_rt (t_ret (x_tup (evs3 x_c C5 x_c) (show 3 ≤ BIG by decide))))
  · have cases5 : r4 = 0 ∨ r4 = 1 ∨ r4 = 2 ∨ r4 = 3 := by omega
    have fin : ∀ s : Str, VOk (.str s) → ixD (.lst [.str "quorum", .str "", .str "day", .str "leaves"]) (.int (r4 : Int)) = some (.str s) → ∃ (v : D) (a' b' c' d' : Int), VOk v ∧ semB g__law_value 3 (some 1) b__law_value [S, .lst (st4 a b c d)] = .ok v (st4 a' b' c' d') := fun s hv hs =>
      ⟨.str s, a4, b4, c4, d4, hv, sem_io1 (e := [some (.dat S), some (.io (st4 a4 b4 c4 d4)), some (.dat (.int (r : Int)))]) ((ss_nx T1).trans ((ss_nx (F0 (by omega))).trans ((ss_nx (F1 (by omega))).trans ((ss_nx (F2 (by omega))).trans
        (ss_rt (t_ret (x_ix (x_lst (evs_cons x_c (evs_cons x_c (evs_cons x_c (evs_cons x_c evs0)))) (by decide)) C4 hs))))))) rfl⟩
    rcases cases5 with g | g | g | g
    · exact fin "quorum" (by unfold VOk; kernel_rfl) (by subst g; rfl)
    · exact fin "" (by unfold VOk; kernel_rfl) (by subst g; rfl)
    · exact fin "day" (by unfold VOk; kernel_rfl) (by subst g; rfl)
    · exact fin "leaves" (by unfold VOk; kernel_rfl) (by subst g; rfl)
end Mp
set_option maxHeartbeats 4000000
namespace Mp
open PySem L2
variable [TabsW] [GdW]
def s1 : ST := .asg (.name 3) (.call 0 [.v 0, .v 1])
def s2 : ST := .asg (.name 4) (.call 1 [.v 2, .v 3])
def s3 : ST := .if_ (.or_ (.cmp .ne (.call 2 [.v 2, .v 3]) (.v 3)) (.cmp .ne (.call 3 [.v 2, .v 4]) (.v 3))) [.ret (.c (.bl false))] []
def s4 : ST := .if_ (.or_ (.cmp .ne (.eis (.v 4) tab_DayError "DayError") (.cmp .lt (.v 2) (.c (.int 18)))) (.cmp .ne (.eis (.v 4) tab_ValueError "ValueError") (.cmp .lt (.v 2) (.c (.int 18))))) [.ret (.c (.bl false))] []
def s5 : ST := .if_ (.cmp .ne (.call 4 [.v 4]) (.sl (.lst [.v 2]) none (some (.blt .int [.cmp .lt (.v 2) (.c (.int 18))])))) [.ret (.c (.bl false))] []
def bB : List ST := [s1, s2, s3, s4, s5]
def eV (S : D) (st : List D) (k : Int) (x3 x4 : Option Cell) : Env := [some (.dat S), some (.own st), some (.dat (.int k)), x3, x4]
structure Turn (k : Nat) : Prop where
  go : ∀ (S : D) (st : List D) (v : D) (x4 : Option Cell), VOk v → frC x4 = true → ∃ e, evSs g_law [s2, s3, s4, s5] (eV S st (k : Int) (some (.dat v)) x4) = .nx (eV S st (k : Int) (some (.dat v)) (some (.dat e)))
theorem turn_of {k : Nat} {C f : Str} (ct : ∀ v, f__law_caught.sem [.int (k : Int), v] = .ok (.err C f v) []) (nm : ∀ v, f__law_named.sem [.int (k : Int), v] = .ok v []) (kp : ∀ v, f__law_kept.sem [.int (k : Int), .err C f v] = .ok v [])
    (t4 : ∀ (S : D) (st : List D) (v : D), evS g_law s4 (eV S st (k : Int) (some (.dat v)) (some (.dat (.err C f v)))) = .nx (eV S st (k : Int) (some (.dat v)) (some (.dat (.err C f v)))))
    (t5 : ∀ (S : D) (st : List D) (v : D), evS g_law s5 (eV S st (k : Int) (some (.dat v)) (some (.dat (.err C f v)))) = .nx (eV S st (k : Int) (some (.dat v)) (some (.dat (.err C f v))))) : Turn k := ⟨fun S st v x4 hv h4 => ⟨.err C f v, by
  have T2 : evS g_law s2 (eV S st (k : Int) (some (.dat v)) x4) = .nx (eV S st (k : Int) (some (.dat v)) (some (.dat (.err C f v)))) := t_asg (call_ok (cl_law_1 (a0 := .v 2) (a1 := .v 3)) (evs2 (x_v rfl) (x_v rfl)) (ct v)) (bind_nm (i := 4) (x := x4) rfl h4)
  have T3 : evS g_law s3 (eV S st (k : Int) (some (.dat v)) (some (.dat (.err C f v)))) = .nx (eV S st (k : Int) (some (.dat v)) (some (.dat (.err C f v)))) :=
    t_if_f0 ((x_or_f (x_cmp (call_ok (cl_law_2 (a0 := .v 2) (a1 := .v 3)) (evs2 (x_v rfl) (x_v rfl)) (nm v)) (x_v rfl) (cmp_nself hv)) rfl).trans (x_cmp (call_ok (cl_law_3 (a0 := .v 2) (a1 := .v 4)) (evs2 (x_v rfl) (x_v rfl)) (kp v)) (x_v rfl) (cmp_nself hv)))
  exact (ss_nx T2).trans ((ss_nx T3).trans ((ss_nx (t4 S st v)).trans ((ss_nx (t5 S st v)).trans ss0)))⟩⟩
theorem turn_0 : Turn 0 := turn_of (C := "BadPart") (f := "part") ct_0 nm_0 kp_0 (fun S st v => by kernel_rfl) (fun S st v => by kernel_rfl)
theorem turn_1 : Turn 1 := turn_of (C := "BadNumber") (f := "number") ct_1 nm_1 kp_1 (fun S st v => by kernel_rfl) (fun S st v => by kernel_rfl)
theorem turn_2 : Turn 2 := turn_of (C := "BadIndex") (f := "index") ct_2 nm_2 kp_2 (fun S st v => by kernel_rfl) (fun S st v => by kernel_rfl)
theorem turn_3 : Turn 3 := turn_of (C := "BadName") (f := "name") ct_3 nm_3 kp_3 (fun S st v => by kernel_rfl) (fun S st v => by kernel_rfl)
theorem turn_4 : Turn 4 := turn_of (C := "BadKey") (f := "key") ct_4 nm_4 kp_4 (fun S st v => by kernel_rfl) (fun S st v => by kernel_rfl)
theorem turn_5 : Turn 5 := turn_of (C := "BadErrand") (f := "index") ct_5 nm_5 kp_5 (fun S st v => by kernel_rfl) (fun S st v => by kernel_rfl)
theorem turn_6 : Turn 6 := turn_of (C := "BadOrder") (f := "name") ct_6 nm_6 kp_6 (fun S st v => by kernel_rfl) (fun S st v => by kernel_rfl)
theorem turn_7 : Turn 7 := turn_of (C := "NoWay") (f := "pair") ct_7 nm_7 kp_7 (fun S st v => by kernel_rfl) (fun S st v => by kernel_rfl)
theorem turn_8 : Turn 8 := turn_of (C := "Ring") (f := "ring") ct_8 nm_8 kp_8 (fun S st v => by kernel_rfl) (fun S st v => by kernel_rfl)
theorem turn_9 : Turn 9 := turn_of (C := "BadThing") (f := "thing") ct_9 nm_9 kp_9 (fun S st v => by kernel_rfl) (fun S st v => by kernel_rfl)
theorem turn_10 : Turn 10 := turn_of (C := "NotSo") (f := "word") ct_10 nm_10 kp_10 (fun S st v => by kernel_rfl) (fun S st v => by kernel_rfl)
theorem turn_11 : Turn 11 := turn_of (C := "BadPaper") (f := "reason") ct_11 nm_11 kp_11 (fun S st v => by kernel_rfl) (fun S st v => by kernel_rfl)
theorem turn_12 : Turn 12 := turn_of (C := "BadTiding") (f := "index") ct_12 nm_12 kp_12 (fun S st v => by kernel_rfl) (fun S st v => by kernel_rfl)
theorem turn_13 : Turn 13 := turn_of (C := "BadMenu") (f := "index") ct_13 nm_13 kp_13 (fun S st v => by kernel_rfl) (fun S st v => by kernel_rfl)
theorem turn_14 : Turn 14 := turn_of (C := "BadText") (f := "line") ct_14 nm_14 kp_14 (fun S st v => by kernel_rfl) (fun S st v => by kernel_rfl)
theorem turn_15 : Turn 15 := turn_of (C := "BadDeed") (f := "index") ct_15 nm_15 kp_15 (fun S st v => by kernel_rfl) (fun S st v => by kernel_rfl)
theorem turn_16 : Turn 16 := turn_of (C := "Promised") (f := "key") ct_16 nm_16 kp_16 (fun S st v => by kernel_rfl) (fun S st v => by kernel_rfl)
theorem turn_17 : Turn 17 := turn_of (C := "Fixed") (f := "key") ct_17 nm_17 kp_17 (fun S st v => by kernel_rfl) (fun S st v => by kernel_rfl)
theorem turn_18 : Turn 18 := turn_of (C := "TooMany") (f := "limit") ct_18 nm_18 kp_18 (fun S st v => by kernel_rfl) (fun S st v => by kernel_rfl)
theorem turn_19 : Turn 19 := turn_of (C := "NothingToUndo") (f := "name") ct_19 nm_19 kp_19 (fun S st v => by kernel_rfl) (fun S st v => by kernel_rfl)
theorem turn_all : ∀ k, k < 20 → Turn k
  | 0, _ => turn_0
  | 1, _ => turn_1
  | 2, _ => turn_2
  | 3, _ => turn_3
  | 4, _ => turn_4
  | 5, _ => turn_5
  | 6, _ => turn_6
  | 7, _ => turn_7
  | 8, _ => turn_8
  | 9, _ => turn_9
  | 10, _ => turn_10
  | 11, _ => turn_11
  | 12, _ => turn_12
  | 13, _ => turn_13
  | 14, _ => turn_14
  | 15, _ => turn_15
  | 16, _ => turn_16
  | 17, _ => turn_17
  | 18, _ => turn_18
  | 19, _ => turn_19
  | k + 20, h => absurd h (by omega)
theorem z_round (ns : List Int) {k : Nat} (hk : k < 20) (a b c d : Int) (x2 x3 x4 : Option Cell) (h2 : frC x2 = true) (h3 : frC x3 = true) (h4 : frC x4 = true) :
    ∃ e1 e2, bindT (.name 2) (.int (k : Nat)) [some (.dat (.lst (ns.map .int))), some (.own (st4 a b c d)), x2, x3, x4] = some e1 ∧ evSs g_law bB e1 = .nx e2 ∧ ∃ (a' b' c' d' : Int) (y2 y3 y4 : Option Cell), frC y2 = true ∧ frC y3 = true ∧ frC y4 = true ∧ e2 = [some (.dat (.lst (ns.map .int))), some (.own (st4 a' b' c' d')), y2, y3, y4] := by
  obtain ⟨v, a', b', c', d', hv, q⟩ := s_value ns a b c d
  generalize D.lst (ns.map .int) = S at q ⊢
  have T1 : evS g_law s1 (eV S (st4 a b c d) (k : Int) x3 x4) = .nx (eV S (st4 a' b' c' d') (k : Int) (some (.dat v)) x4) := t_asg (own_call1 (f := f__law_value) rfl rfl rfl rfl rfl evs0 q) (bind_nm (i := 3) (x := x3) rfl h3)
  obtain ⟨e, T⟩ := (turn_all k hk).go S (st4 a' b' c' d') v x4 hv h4
  exact ⟨eV S (st4 a b c d) (k : Int) x3 x4, _, bind_nm (x := x2) rfl h2, (ss_nx T1).trans T, a', b', c', d', _, _, _, rfl, rfl, rfl, rfl⟩
theorem math (ns : List Int) (hl : ns.length ≤ 63) : ∃ out, semB g_law 5 none b_law [.lst (ns.map .int)] = .ok (.bl true) out := by
  obtain ⟨a, b, c, d, q0⟩ := s_start ns
  have st : startE none 5 [D.lst (ns.map .int)] = [some (.dat (.lst (ns.map .int))), none, none, none, none] := rfl
  have T1 : evS g_law (.new 1 (.call 0 [.v 0])) [some (.dat (.lst (ns.map .int))), none, none, none, none] = .nx [some (.dat (.lst (ns.map .int))), some (.own (st4 a b c d)), none, none, none] :=
    t_newc (f := f__law_start) rfl rfl (evs1 (x_v rfl)) q0 (show 4 ≤ BIG by decide) rfl rfl
  have I : evi g_law (.rng1 (.c (.int 20))) [some (.dat (.lst (ns.map .int))), some (.own (st4 a b c d)), none, none, none] = .ok ((List.range' 0 20).map fun k : Nat => D.int (k : Int)) [some (.dat (.lst (ns.map .int))), some (.own (st4 a b c d)), none, none, none] :=
    evi_rng1 (n := 20) x_c (by omega)
  obtain ⟨e, F, a', b', c', d', y2, y3, y4, g2, g3, g4, rfl⟩ := forL_keep (tg := .name 2) (body := fun e => evSs g_law bB e) (fun n : Nat => D.int (n : Int)) (fun e => ∃ (a' b' c' d' : Int) (y2 y3 y4 : Option Cell), frC y2 = true ∧ frC y3 = true ∧ frC y4 = true ∧ e = [some (.dat (.lst (ns.map .int))), some (.own (st4 a' b' c' d')), y2, y3, y4])
    (List.range' 0 20) [some (.dat (.lst (ns.map .int))), some (.own (st4 a b c d)), none, none, none] ⟨a, b, c, d, none, none, none, rfl, rfl, rfl, rfl⟩ fun j hj e ⟨a', b', c', d', y2, y3, y4, g2, g3, g4, he⟩ => by
      subst he
      have hj' : j < 20 := by simpa using hj
      exact z_round ns hj' a' b' c' d' y2 y3 y4 g2 g3 g4
  refine ⟨[], sem_rt (e := [some (.dat (.lst (ns.map .int))), some (.own (st4 a' b' c' d')), y2, y3, y4]) ?_⟩
  rw [st]
  exact (ss_nx T1).trans ((ss_nx (t_for I F)).trans (ss_rt (t_ret x_c)))
end Mp
set_option maxHeartbeats 4000000
namespace Mp
open PySem PySem.Spec PyProof.Rows L2
structure EC (K : PySem.W.Frag) (n : Str) (C : Addr) (bm : List Value) : Prop where
  at_ : clsAt K n = C
  cls : ∃ nm q N bs sn sub ab col dd k0 k1 k2 k3 k5 ni, K.lookup C = some (excClassObj nm q C N bs bm true sn sub ab col dd k0 k1 k2 k3 k5 ni)
  ga : PySem.W.findIn K (.ref C) "__getattribute__" = some (some (.builtin "BaseException.__getattribute__"))
  gg : PySem.W.findIn K (.ref C) "__getattr__" = some none
  ha : PySem.W.findIn K (.ref C) "__class__" = some (some (.builtin "object.__class__"))
  bs : bm.contains (.type "BaseException") = true
  ob : bm.contains (.type "object") = true
section
variable {K : PySem.W.Frag} {n : Str} {C : Addr} {bm : List Value}
theorem EC.cd (E : EC K n C bm) : ∃ cd, PySem.W.clsIn K C = some cd ∧ cd.mro = .ref C :: bm ∧ cd.hasDict = true := by
  obtain ⟨nm, q, N, bs, sn, sub, ab, col, dd, k0, k1, k2, k3, k5, ni, h⟩ := E.cls
  refine ⟨{ name := nm, bases := bs, mro := .ref C :: bm, ns := N, qualname := q, hasDict := true, slotNames := sn, subclasses := sub, abstract := ab, collection := col, hasDel := false }, ?_, rfl, rfl⟩
  unfold PySem.W.clsIn
  rw [h] <;> rfl
theorem EC.sub (E : EC K n C bm) (base : Value) : PySem.W.subIn K (.ref C) base = some ((Value.ref C :: bm).contains base) := by
  obtain ⟨cd, h, hm, _⟩ := E.cd
  show PySem.W.mroIn K C base = _
  unfold PySem.W.mroIn
  rw [h, Option.bind_some, if_neg (by rw [hm]; simp), hm]
theorem EC.ty (E : EC K n C bm) : PySem.W.typeIn K (.ref C) = some (.type "type") := by
  obtain ⟨nm, q, N, bs, sn, sub, ab, col, dd, k0, k1, k2, k3, k5, ni, h⟩ := E.cls
  show (K.lookup C).map (·.cls) = _
  rw [h] <;> rfl
theorem EC.ic (E : EC K n C bm) : PySem.W.isClsIn K C = true := by
  obtain ⟨cd, h, _⟩ := E.cd
  unfold PySem.W.isClsIn
  rw [h]; rfl
theorem EC.hd (E : EC K n C bm) : PySem.W.hasDictIn K C = true := by
  obtain ⟨cd, h, _, hd⟩ := E.cd
  unfold PySem.W.hasDictIn
  rw [h]
  show cd.hasDict = true
  exact hd
theorem EC.ex (E : EC K n C bm) : PySem.W.subIn K (.ref C) (.type "BaseException") = some true := by
  rw [E.sub, List.contains_cons, E.bs, Bool.or_true]
theorem EC.excC (E : EC K n C bm) (hn : PySem.W.specialIn K (.builtin "object.__class__") "__get__" = some (some (.builtin "getset_descriptor.__get__"))) (ht : PySem.W.takesIn K (.builtin "object.__class__") = some true) : ExcC K C :=
  ⟨E.ga, E.gg, E.ex, E.hd, E.ha, hn, ht, (E.sub (.type "object")).trans (by rw [List.contains_cons, E.ob, Bool.or_true])⟩
theorem EC.errf (E : EC K n C bm) {f : Str} (h : PySem.W.findIn K (.ref C) f = some none) : ErrF K f n := by
  have e := E.at_
  subst e
  exact ⟨⟨E.ga, E.gg, E.ex, E.hd⟩, h⟩
theorem exm_ccE {S S' : Addr} {r : Bool} (h1 : PySem.W.subIn K (.ref S') (.type "BaseException") = some true) (h2 : PySem.W.isClsIn K S' = true) (h3 : PySem.W.typeIn K (.ref S') = some (.type "type")) (h4 : PySem.W.subIn K (.ref S) (.ref S') = some r) : PySem.W.exmOne K (.ref S) (.ref S') = some r := by
  have e1 : (PySem.W.subIn K (.ref S') (.type "BaseException") == some true) = true := by rw [h1] <;> rfl
  have e2 : ((PySem.W.clsIn K S').isSome && PySem.W.typeIn K (.ref S') == some (.type "type")) = true := by
    have h2' : (PySem.W.clsIn K S').isSome = true := h2
    rw [h2', h3] <;> rfl
  show (if (PySem.W.subIn K (.ref S') (.type "BaseException") == some true) = true then (if ((PySem.W.clsIn K S').isSome && PySem.W.typeIn K (.ref S') == some (.type "type")) = true then PySem.W.subIn K (.ref S) (.ref S') else none) else none) = some r
  rw [if_pos e1, if_pos e2]
  exact h4
theorem EC.self (E : EC K n C bm) : PySem.W.exmOne K (.ref C) (.ref C) = some true := exm_ccE E.ex E.ic E.ty ((E.sub _).trans (by rw [List.contains_cons]; simp))
theorem EC.sub_ne (E : EC K n C bm) {D : Addr} (h : C ≠ D) : PySem.W.subIn K (.ref C) (.ref D) = some (bm.contains (.ref D)) := by
  rw [E.sub, List.contains_cons]
  have : (Value.ref D == Value.ref C) = false := by simpa using Ne.symm h
  rw [this, Bool.false_or]
end
theorem kit_selfE {K : PySem.W.Frag} {C : Addr} : PySem.W.kitOne K (.ref C) (.ref C) = some true := by unfold PySem.W.kitOne; simp
theorem kit_ccE {K : PySem.W.Frag} {C C' : Addr} {r : Bool} (hn : C ≠ C') (h0 : PySem.W.isClsIn K C' = true) (h1 : PySem.W.typeIn K (.ref C') = some (.type "type")) (h : PySem.W.subIn K (.ref C) (.ref C') = some r) : PySem.W.kitOne K (.ref C) (.ref C') = some r := by
  unfold PySem.W.kitOne PySem.W.kitCls
  have h0' : (PySem.W.clsIn K C').isSome = true := h0
  rw [if_neg (by simpa using hn)]
  dsimp only
  rw [h0', h1]
  exact h
theorem kit_ctE {K : PySem.W.Frag} {C : Addr} {T : String} {r : Bool} (hT : PySem.W.kitMeta T = true) (h : PySem.W.subIn K (.ref C) (.type T) = some r) : PySem.W.kitOne K (.ref C) (.type T) = some r := by
  unfold PySem.W.kitOne PySem.W.kitCls
  rw [if_neg (by simp)]
  dsimp only
  rw [if_pos hT]
  exact h
theorem nodup_ixA {N : List Addr} (hN : N.Nodup) {i j : Nat} {x : Addr} (a : N[i]? = some x) (b : N[j]? = some x) : i = j := by
  have ⟨hi, ei⟩ := List.getElem?_eq_some_iff.mp a
  have ⟨hj, ej⟩ := List.getElem?_eq_some_iff.mp b
  exact (List.getElem_inj hN).mp (ei.trans ej.symm)
theorem EC.sub_ty {K : PySem.W.Frag} {n : Str} {C : Addr} {bm : List Value} (E : EC K n C bm) (T : String) : PySem.W.subIn K (.ref C) (.type T) = some (bm.contains (.type T)) := by
  rw [E.sub, List.contains_cons]
  have : (Value.type T == Value.ref C) = false := by simp
  rw [this, Bool.false_or]
def AllE (K : PySem.W.Frag) : List (Str × List Value) → List Addr → Prop
  | [], [] => True
  | p :: ps, a :: as => EC K p.1 a p.2 ∧ AllE K ps as
  | _, _ => False
theorem AllE.get {K : PySem.W.Frag} : ∀ {ps : List (Str × List Value)} {as : List Addr}, AllE K ps as → ∀ (i : Nat) (p : Str × List Value), ps[i]? = some p → ∃ a, as[i]? = some a ∧ EC K p.1 a p.2
  | [], _, _, i, p, h => by simp at h
  | q :: ps, [], h, _, _, _ => h.elim
  | q :: ps, a :: as, h, 0, p, e => by
    have e : q = p := by simpa using e
    subst e
    exact ⟨a, rfl, h.1⟩
  | q :: ps, a :: as, h, i + 1, p, e => by
    obtain ⟨b, h1, h2⟩ := AllE.get h.2 i p (by simpa using e)
    exact ⟨b, by simpa using h1, h2⟩
theorem AllE.back {K : PySem.W.Frag} : ∀ {ps : List (Str × List Value)} {as : List Addr}, AllE K ps as → ∀ (i : Nat) (a : Addr), as[i]? = some a → ∃ p, ps[i]? = some p ∧ EC K p.1 a p.2
  | [], [], _, i, a, h => by simp at h
  | [], _ :: _, h, _, _, _ => h.elim
  | q :: ps, [], h, _, _, _ => h.elim
  | q :: ps, b :: as, h, 0, a, e => by
    have e : b = a := by simpa using e
    subst e
    exact ⟨q, rfl, h.1⟩
  | q :: ps, b :: as, h, i + 1, a, e => by
    obtain ⟨p, h1, h2⟩ := AllE.back h.2 i a (by simpa using e)
    exact ⟨p, by simpa using h1, h2⟩
def tabF (f : Nat → Bool) : Nat → List (Str × List Value) → List (Str × Bool)
  | _, [] => []
  | k, p :: ps => (p.1, f k) :: tabF f (k + 1) ps
theorem tab_look {f : Nat → Bool} {C : Str} {b : Bool} : ∀ {ps : List (Str × List Value)} {k : Nat}, (tabF f k ps).lookup C = some b → ∃ i p, ps[i]? = some p ∧ p.1 = C ∧ b = f (k + i)
  | [], k, h => by simp [tabF] at h
  | p :: ps, k, h => by
    unfold tabF at h
    rw [List.lookup_cons] at h
    by_cases e : (C == p.1) = true
    · rw [e] at h
      refine ⟨0, p, rfl, (beq_iff_eq.mp e).symm, ?_⟩
      simpa using h.symm
    · rw [Bool.eq_false_iff.mpr e] at h
      obtain ⟨i, q, h1, h2, h3⟩ := tab_look h
      exact ⟨i + 1, q, by simpa using h1, h2, by rw [h3]; congr 1; omega⟩
theorem map_look {g : List Value → Bool} {C : Str} {b : Bool} : ∀ {ps : List (Str × List Value)}, (ps.map fun p => (p.1, g p.2)).lookup C = some b → ∃ (i : Nat) (p : Str × List Value), ps[i]? = some p ∧ p.1 = C ∧ b = g p.2
  | [], h => by simp at h
  | p :: ps, h => by
    rw [List.map_cons, List.lookup_cons] at h
    by_cases e : (C == p.1) = true
    · rw [e] at h
      exact ⟨0, p, rfl, (beq_iff_eq.mp e).symm, by simpa using h.symm⟩
    · rw [Bool.eq_false_iff.mpr e] at h
      obtain ⟨i, q, h1, h2, h3⟩ := map_look h
      exact ⟨i + 1, q, by simpa using h1, h2, h3⟩
section
variable {K : PySem.W.Frag} {ps : List (Str × List Value)} {as : List Addr} (A : AllE K ps as) (hn : PySem.W.specialIn K (.builtin "object.__class__") "__get__" = some (some (.builtin "getset_descriptor.__get__"))) (ht : PySem.W.takesIn K (.builtin "object.__class__") = some true)
include A hn ht
/-- asked for a class of a base of theirs -/
theorem eis_sup {cv : Value} {g : List Value → Bool} (kit : ∀ n a bm, a ∈ as → EC K n a bm → PySem.W.kitOne K (.ref a) cv = some (g bm)) : EisF K (ps.map fun p => (p.1, g p.2)) cv := ⟨fun C b h => by
  obtain ⟨i, p, h1, h2, h3⟩ := map_look h
  obtain ⟨a, h4, E⟩ := A.get i p h1
  subst h2
  rw [E.at_, h3]
  exact ⟨E.excC hn ht, kit _ _ _ (List.mem_of_getElem? h4) E⟩⟩
/-- asked for one of themselves -/
theorem eis_own {t : Nat} {T : Addr} (nd : as.Nodup) (hT : as[t]? = some T) (noT : ∀ p ∈ ps, p.2.contains (.ref T) = false) : EisF K (tabF (fun i => i == t) 0 ps) (.ref T) := ⟨fun C b h => by
  obtain ⟨i, p, h1, h2, h3⟩ := tab_look h
  obtain ⟨a, h4, E⟩ := A.get i p h1
  obtain ⟨q, _, ET⟩ := A.back t T hT
  subst h2
  rw [E.at_, h3]
  refine ⟨E.excC hn ht, ?_⟩
  by_cases e : i = t
  · subst e
    rw [h4] at hT
    cases hT
    rw [kit_selfE]; simp
  · have ne : a ≠ T := fun z => e (by subst z; exact nodup_ixA nd h4 hT)
    rw [kit_ccE ne ET.ic ET.ty (E.sub_ne ne), noT p (List.mem_of_getElem? h1)]
    simp [e]⟩
end
theorem hit_first {K : PySem.W.Frag} {n : Str} {C D : Addr} {bm : List Value} {r : List Value} (E : EC K n C bm) (h1 : PySem.W.subIn K (.ref D) (.type "BaseException") = some true) (h2 : PySem.W.isClsIn K D = true) (h3 : PySem.W.typeIn K (.ref D) = some (.type "type")) (ne : C ≠ D) (hb : bm.contains (.ref D) = true) :
    hits K (.ref (clsAt K n)) (.ref D :: r) := by
  rw [E.at_]
  exact .inl (exm_ccE h1 h2 h3 ((E.sub_ne ne).trans (by rw [hb])))
theorem hit_next {K : PySem.W.Frag} {n : Str} {C D : Addr} {bm : List Value} {r : List Value} (E : EC K n C bm) (h1 : PySem.W.subIn K (.ref D) (.type "BaseException") = some true) (h2 : PySem.W.isClsIn K D = true) (h3 : PySem.W.typeIn K (.ref D) = some (.type "type")) (ne : C ≠ D) (hb : bm.contains (.ref D) = false)
    (h : hits K (.ref (clsAt K n)) r) : hits K (.ref (clsAt K n)) (.ref D :: r) := by
  rw [E.at_] at h ⊢
  exact .inr ⟨exm_ccE h1 h2 h3 ((E.sub_ne ne).trans (by rw [hb])), h⟩
theorem hit_self {K : PySem.W.Frag} {n : Str} {C : Addr} {bm : List Value} {r : List Value} (E : EC K n C bm) : hits K (.ref (clsAt K n)) (.ref C :: r) := by
  rw [E.at_]
  exact .inl E.self
end Mp
set_option maxHeartbeats 4000000
namespace Mp
open PySem L2 PyProof.Rows
theorem FnOk.imp [GdW] {P : Program} {w : World} {K : PySem.W.Frag} {mg : Str → Option Value} {base : Heap} {CX : CXT} {k : Nat} {f : Addr} {fd : FuncData} {ps : List Str} {sp sp2 : Sp} (F : FnOk P w K mg base CX k f fd ps sp) (h : ∀ vs H Q E, sp2 vs H Q E → sp vs H Q E) : FnOk P w K mg base CX k f fd ps sp2 := ⟨fun vs H Q E z => F.len vs H Q E (h _ _ _ _ z), fun A out s H args us vs Q E hr e0 b r z => F.go A out s H args us vs Q E hr e0 b r (h _ _ _ _ z)⟩
theorem ve_bs (D : Addr) : (Value.ref D :: PySem.HandSPX.veTail).contains (.type "BaseException") = true := by rw [List.contains_cons]; exact Bool.or_eq_true_iff.mpr (.inr (by decide +kernel))
theorem ve_ob (D : Addr) : (Value.ref D :: PySem.HandSPX.veTail).contains (.type "object") = true := by rw [List.contains_cons]; exact Bool.or_eq_true_iff.mpr (.inr (by decide +kernel))
theorem ve_ve (D : Addr) : (Value.ref D :: PySem.HandSPX.veTail).contains (.type "ValueError") = true := by rw [List.contains_cons]; exact Bool.or_eq_true_iff.mpr (.inr (by decide +kernel))
theorem ve_day (D : Addr) : (Value.ref D :: PySem.HandSPX.veTail).contains (.ref D) = true := by rw [List.contains_cons]; simp
theorem ve_ne {D T : Addr} (h : D ≠ T) : (Value.ref D :: PySem.HandSPX.veTail).contains (.ref T) = false := by simp [List.contains_cons, Ne.symm h]
theorem oe_bs : PySem.HandSPX.oeTail.contains (.type "BaseException") = true := by decide +kernel
theorem oe_ob : PySem.HandSPX.oeTail.contains (.type "object") = true := by decide +kernel
theorem oe_ve : PySem.HandSPX.oeTail.contains (.type "ValueError") = false := by decide +kernel
theorem oe_ref (D : Addr) : PySem.HandSPX.oeTail.contains (.ref D) = false := by simp
theorem re_bs : PySem.HandSPX.reTail.contains (.type "BaseException") = true := by decide +kernel
theorem re_ob : PySem.HandSPX.reTail.contains (.type "object") = true := by decide +kernel
theorem re_ve : PySem.HandSPX.reTail.contains (.type "ValueError") = false := by decide +kernel
theorem re_ref (D : Addr) : PySem.HandSPX.reTail.contains (.ref D) = false := by simp
def psE (D : Addr) : List (Str × List Value) := [("BadPart", (.ref D :: PySem.HandSPX.veTail)), ("BadNumber", (.ref D :: PySem.HandSPX.veTail)), ("BadIndex", (.ref D :: PySem.HandSPX.veTail)), ("BadName", (.ref D :: PySem.HandSPX.veTail)), ("BadKey", (.ref D :: PySem.HandSPX.veTail)), ("BadErrand", (.ref D :: PySem.HandSPX.veTail)), ("BadOrder", (.ref D :: PySem.HandSPX.veTail)), ("NoWay", (.ref D :: PySem.HandSPX.veTail)), ("Ring", (.ref D :: PySem.HandSPX.veTail)), ("BadThing", (.ref D :: PySem.HandSPX.veTail)), ("NotSo", (.ref D :: PySem.HandSPX.veTail)), ("BadPaper", (.ref D :: PySem.HandSPX.veTail)), ("BadTiding", (.ref D :: PySem.HandSPX.veTail)), ("BadMenu", (.ref D :: PySem.HandSPX.veTail)), ("BadText", (.ref D :: PySem.HandSPX.veTail)), ("BadDeed", (.ref D :: PySem.HandSPX.veTail)), ("Promised", (.ref D :: PySem.HandSPX.veTail)), ("Fixed", (.ref D :: PySem.HandSPX.veTail)), ("TooMany", PySem.HandSPX.oeTail), ("NothingToUndo", PySem.HandSPX.reTail)]
theorem psE_no {D T : Addr} (h : D ≠ T) : ∀ p ∈ psE D, p.2.contains (.ref T) = false := by
  intro p hp
  simp only [psE, List.mem_cons, List.not_mem_nil, or_false] at hp
  rcases hp with rfl | rfl | rfl | rfl | rfl | rfl | rfl | rfl | rfl | rfl | rfl | rfl | rfl | rfl | rfl | rfl | rfl | rfl | rfl | rfl <;> first | exact ve_ne h | exact oe_ref T | exact re_ref T
theorem tabe_BadPart (D : Addr) : tab_BadPart = tabF (fun i => i == 0) 0 (psE D) := by kernel_rfl
theorem tabe_BadNumber (D : Addr) : tab_BadNumber = tabF (fun i => i == 1) 0 (psE D) := by kernel_rfl
theorem tabe_BadIndex (D : Addr) : tab_BadIndex = tabF (fun i => i == 2) 0 (psE D) := by kernel_rfl
theorem tabe_BadName (D : Addr) : tab_BadName = tabF (fun i => i == 3) 0 (psE D) := by kernel_rfl
theorem tabe_BadKey (D : Addr) : tab_BadKey = tabF (fun i => i == 4) 0 (psE D) := by kernel_rfl
theorem tabe_BadErrand (D : Addr) : tab_BadErrand = tabF (fun i => i == 5) 0 (psE D) := by kernel_rfl
theorem tabe_BadOrder (D : Addr) : tab_BadOrder = tabF (fun i => i == 6) 0 (psE D) := by kernel_rfl
theorem tabe_NoWay (D : Addr) : tab_NoWay = tabF (fun i => i == 7) 0 (psE D) := by kernel_rfl
theorem tabe_Ring (D : Addr) : tab_Ring = tabF (fun i => i == 8) 0 (psE D) := by kernel_rfl
theorem tabe_BadThing (D : Addr) : tab_BadThing = tabF (fun i => i == 9) 0 (psE D) := by kernel_rfl
theorem tabe_NotSo (D : Addr) : tab_NotSo = tabF (fun i => i == 10) 0 (psE D) := by kernel_rfl
theorem tabe_BadPaper (D : Addr) : tab_BadPaper = tabF (fun i => i == 11) 0 (psE D) := by kernel_rfl
theorem tabe_BadTiding (D : Addr) : tab_BadTiding = tabF (fun i => i == 12) 0 (psE D) := by kernel_rfl
theorem tabe_BadMenu (D : Addr) : tab_BadMenu = tabF (fun i => i == 13) 0 (psE D) := by kernel_rfl
theorem tabe_BadText (D : Addr) : tab_BadText = tabF (fun i => i == 14) 0 (psE D) := by kernel_rfl
theorem tabe_BadDeed (D : Addr) : tab_BadDeed = tabF (fun i => i == 15) 0 (psE D) := by kernel_rfl
theorem tabe_Promised (D : Addr) : tab_Promised = tabF (fun i => i == 16) 0 (psE D) := by kernel_rfl
theorem tabe_Fixed (D : Addr) : tab_Fixed = tabF (fun i => i == 17) 0 (psE D) := by kernel_rfl
theorem tabe_DayError (D : Addr) : tab_DayError = (psE D).map fun p => (p.1, p.2.contains (.ref D)) := by
  simp only [psE, List.map_cons, List.map_nil, ve_day, oe_ref, re_ref]
  rfl
theorem tabe_ValueError (D : Addr) : tab_ValueError = (psE D).map fun p => (p.1, p.2.contains (.type "ValueError")) := by
  simp only [psE, List.map_cons, List.map_nil, ve_ve, oe_ve, re_ve]
  rfl
theorem all_mk {l : PySem.W.OpenLaw} {w : World} {K : PySem.W.Frag} {h : Heap} {mg : Str → Option Value} {fa C_DayError C_BadPart I_BadPart N_BadPart C_BadNumber I_BadNumber N_BadNumber C_BadIndex I_BadIndex N_BadIndex C_BadName I_BadName N_BadName C_BadKey I_BadKey N_BadKey C_BadErrand I_BadErrand N_BadErrand C_BadOrder I_BadOrder N_BadOrder C_NoWay I_NoWay N_NoWay C_Ring I_Ring N_Ring C_BadThing I_BadThing N_BadThing C_NotSo I_NotSo N_NotSo C_BadPaper I_BadPaper N_BadPaper C_BadTiding I_BadTiding N_BadTiding C_BadMenu I_BadMenu N_BadMenu C_BadText I_BadText N_BadText C_BadDeed I_BadDeed N_BadDeed C_Promised I_Promised N_Promised C_Fixed I_Fixed N_Fixed C_TooMany I_TooMany N_TooMany C_NothingToUndo I_NothingToUndo N_NothingToUndo f0 f1 f2 f3 f4 f5 f6 f7 f8 f9 f10 : Addr} (X : K.In h) (G : h.Ns mainGlobals mg) (hfa : mg "law" = some (.ref fa))
    {nm_BadPart q_BadPart : Str} {bs_BadPart sub_BadPart : List Value} {sn_BadPart : List Str} {ab_BadPart : Bool} {col_BadPart : Option Bool} {dd_BadPart : Option Addr} {m0_BadPart m1_BadPart m2_BadPart m3_BadPart m5_BadPart : Option Value}
    {od_BadPart an_BadPart : Option Addr} {sl_BadPart : Array (Option Value)} {oc_BadPart dc_BadPart pm_BadPart cd_BadPart ct_BadPart : Value}
    {nm_BadNumber q_BadNumber : Str} {bs_BadNumber sub_BadNumber : List Value} {sn_BadNumber : List Str} {ab_BadNumber : Bool} {col_BadNumber : Option Bool} {dd_BadNumber : Option Addr} {m0_BadNumber m1_BadNumber m2_BadNumber m3_BadNumber m5_BadNumber : Option Value}
    {od_BadNumber an_BadNumber : Option Addr} {sl_BadNumber : Array (Option Value)} {oc_BadNumber dc_BadNumber pm_BadNumber cd_BadNumber ct_BadNumber : Value}
    {nm_BadIndex q_BadIndex : Str} {bs_BadIndex sub_BadIndex : List Value} {sn_BadIndex : List Str} {ab_BadIndex : Bool} {col_BadIndex : Option Bool} {dd_BadIndex : Option Addr} {m0_BadIndex m1_BadIndex m2_BadIndex m3_BadIndex m5_BadIndex : Option Value}
    {od_BadIndex an_BadIndex : Option Addr} {sl_BadIndex : Array (Option Value)} {oc_BadIndex dc_BadIndex pm_BadIndex cd_BadIndex ct_BadIndex : Value}
    {nm_BadName q_BadName : Str} {bs_BadName sub_BadName : List Value} {sn_BadName : List Str} {ab_BadName : Bool} {col_BadName : Option Bool} {dd_BadName : Option Addr} {m0_BadName m1_BadName m2_BadName m3_BadName m5_BadName : Option Value}
    {od_BadName an_BadName : Option Addr} {sl_BadName : Array (Option Value)} {oc_BadName dc_BadName pm_BadName cd_BadName ct_BadName : Value}
    {nm_BadKey q_BadKey : Str} {bs_BadKey sub_BadKey : List Value} {sn_BadKey : List Str} {ab_BadKey : Bool} {col_BadKey : Option Bool} {dd_BadKey : Option Addr} {m0_BadKey m1_BadKey m2_BadKey m3_BadKey m5_BadKey : Option Value}
    {od_BadKey an_BadKey : Option Addr} {sl_BadKey : Array (Option Value)} {oc_BadKey dc_BadKey pm_BadKey cd_BadKey ct_BadKey : Value}
    {nm_BadErrand q_BadErrand : Str} {bs_BadErrand sub_BadErrand : List Value} {sn_BadErrand : List Str} {ab_BadErrand : Bool} {col_BadErrand : Option Bool} {dd_BadErrand : Option Addr} {m0_BadErrand m1_BadErrand m2_BadErrand m3_BadErrand m5_BadErrand : Option Value}
    {od_BadErrand an_BadErrand : Option Addr} {sl_BadErrand : Array (Option Value)} {oc_BadErrand dc_BadErrand pm_BadErrand cd_BadErrand ct_BadErrand : Value}
    {nm_BadOrder q_BadOrder : Str} {bs_BadOrder sub_BadOrder : List Value} {sn_BadOrder : List Str} {ab_BadOrder : Bool} {col_BadOrder : Option Bool} {dd_BadOrder : Option Addr} {m0_BadOrder m1_BadOrder m2_BadOrder m3_BadOrder m5_BadOrder : Option Value}
    {od_BadOrder an_BadOrder : Option Addr} {sl_BadOrder : Array (Option Value)} {oc_BadOrder dc_BadOrder pm_BadOrder cd_BadOrder ct_BadOrder : Value}
    {nm_NoWay q_NoWay : Str} {bs_NoWay sub_NoWay : List Value} {sn_NoWay : List Str} {ab_NoWay : Bool} {col_NoWay : Option Bool} {dd_NoWay : Option Addr} {m0_NoWay m1_NoWay m2_NoWay m3_NoWay m5_NoWay : Option Value}
    {od_NoWay an_NoWay : Option Addr} {sl_NoWay : Array (Option Value)} {oc_NoWay dc_NoWay pm_NoWay cd_NoWay ct_NoWay : Value}
    {nm_Ring q_Ring : Str} {bs_Ring sub_Ring : List Value} {sn_Ring : List Str} {ab_Ring : Bool} {col_Ring : Option Bool} {dd_Ring : Option Addr} {m0_Ring m1_Ring m2_Ring m3_Ring m5_Ring : Option Value}
    {od_Ring an_Ring : Option Addr} {sl_Ring : Array (Option Value)} {oc_Ring dc_Ring pm_Ring cd_Ring ct_Ring : Value}
    {nm_BadThing q_BadThing : Str} {bs_BadThing sub_BadThing : List Value} {sn_BadThing : List Str} {ab_BadThing : Bool} {col_BadThing : Option Bool} {dd_BadThing : Option Addr} {m0_BadThing m1_BadThing m2_BadThing m3_BadThing m5_BadThing : Option Value}
    {od_BadThing an_BadThing : Option Addr} {sl_BadThing : Array (Option Value)} {oc_BadThing dc_BadThing pm_BadThing cd_BadThing ct_BadThing : Value}
    {nm_NotSo q_NotSo : Str} {bs_NotSo sub_NotSo : List Value} {sn_NotSo : List Str} {ab_NotSo : Bool} {col_NotSo : Option Bool} {dd_NotSo : Option Addr} {m0_NotSo m1_NotSo m2_NotSo m3_NotSo m5_NotSo : Option Value}
    {od_NotSo an_NotSo : Option Addr} {sl_NotSo : Array (Option Value)} {oc_NotSo dc_NotSo pm_NotSo cd_NotSo ct_NotSo : Value}
    {nm_BadPaper q_BadPaper : Str} {bs_BadPaper sub_BadPaper : List Value} {sn_BadPaper : List Str} {ab_BadPaper : Bool} {col_BadPaper : Option Bool} {dd_BadPaper : Option Addr} {m0_BadPaper m1_BadPaper m2_BadPaper m3_BadPaper m5_BadPaper : Option Value}
    {od_BadPaper an_BadPaper : Option Addr} {sl_BadPaper : Array (Option Value)} {oc_BadPaper dc_BadPaper pm_BadPaper cd_BadPaper ct_BadPaper : Value}
    {nm_BadTiding q_BadTiding : Str} {bs_BadTiding sub_BadTiding : List Value} {sn_BadTiding : List Str} {ab_BadTiding : Bool} {col_BadTiding : Option Bool} {dd_BadTiding : Option Addr} {m0_BadTiding m1_BadTiding m2_BadTiding m3_BadTiding m5_BadTiding : Option Value}
    {od_BadTiding an_BadTiding : Option Addr} {sl_BadTiding : Array (Option Value)} {oc_BadTiding dc_BadTiding pm_BadTiding cd_BadTiding ct_BadTiding : Value}
    {nm_BadMenu q_BadMenu : Str} {bs_BadMenu sub_BadMenu : List Value} {sn_BadMenu : List Str} {ab_BadMenu : Bool} {col_BadMenu : Option Bool} {dd_BadMenu : Option Addr} {m0_BadMenu m1_BadMenu m2_BadMenu m3_BadMenu m5_BadMenu : Option Value}
    {od_BadMenu an_BadMenu : Option Addr} {sl_BadMenu : Array (Option Value)} {oc_BadMenu dc_BadMenu pm_BadMenu cd_BadMenu ct_BadMenu : Value}
    {nm_BadText q_BadText : Str} {bs_BadText sub_BadText : List Value} {sn_BadText : List Str} {ab_BadText : Bool} {col_BadText : Option Bool} {dd_BadText : Option Addr} {m0_BadText m1_BadText m2_BadText m3_BadText m5_BadText : Option Value}
    {od_BadText an_BadText : Option Addr} {sl_BadText : Array (Option Value)} {oc_BadText dc_BadText pm_BadText cd_BadText ct_BadText : Value}
    {nm_BadDeed q_BadDeed : Str} {bs_BadDeed sub_BadDeed : List Value} {sn_BadDeed : List Str} {ab_BadDeed : Bool} {col_BadDeed : Option Bool} {dd_BadDeed : Option Addr} {m0_BadDeed m1_BadDeed m2_BadDeed m3_BadDeed m5_BadDeed : Option Value}
    {od_BadDeed an_BadDeed : Option Addr} {sl_BadDeed : Array (Option Value)} {oc_BadDeed dc_BadDeed pm_BadDeed cd_BadDeed ct_BadDeed : Value}
    {nm_Promised q_Promised : Str} {bs_Promised sub_Promised : List Value} {sn_Promised : List Str} {ab_Promised : Bool} {col_Promised : Option Bool} {dd_Promised : Option Addr} {m0_Promised m1_Promised m2_Promised m3_Promised m5_Promised : Option Value}
    {od_Promised an_Promised : Option Addr} {sl_Promised : Array (Option Value)} {oc_Promised dc_Promised pm_Promised cd_Promised ct_Promised : Value}
    {nm_Fixed q_Fixed : Str} {bs_Fixed sub_Fixed : List Value} {sn_Fixed : List Str} {ab_Fixed : Bool} {col_Fixed : Option Bool} {dd_Fixed : Option Addr} {m0_Fixed m1_Fixed m2_Fixed m3_Fixed m5_Fixed : Option Value}
    {od_Fixed an_Fixed : Option Addr} {sl_Fixed : Array (Option Value)} {oc_Fixed dc_Fixed pm_Fixed cd_Fixed ct_Fixed : Value}
    {nm_TooMany q_TooMany : Str} {bs_TooMany sub_TooMany : List Value} {sn_TooMany : List Str} {ab_TooMany : Bool} {col_TooMany : Option Bool} {dd_TooMany : Option Addr} {m0_TooMany m1_TooMany m2_TooMany m3_TooMany m5_TooMany : Option Value}
    {od_TooMany an_TooMany : Option Addr} {sl_TooMany : Array (Option Value)} {oc_TooMany dc_TooMany pm_TooMany cd_TooMany ct_TooMany : Value}
    {nm_NothingToUndo q_NothingToUndo : Str} {bs_NothingToUndo sub_NothingToUndo : List Value} {sn_NothingToUndo : List Str} {ab_NothingToUndo : Bool} {col_NothingToUndo : Option Bool} {dd_NothingToUndo : Option Addr} {m0_NothingToUndo m1_NothingToUndo m2_NothingToUndo m3_NothingToUndo m5_NothingToUndo : Option Value}
    {od_NothingToUndo an_NothingToUndo : Option Addr} {sl_NothingToUndo : Array (Option Value)} {oc_NothingToUndo dc_NothingToUndo pm_NothingToUndo cd_NothingToUndo ct_NothingToUndo : Value}
    {od0 an0 od1 an1 od2 an2 od3 an3 od4 an4 od5 an5 od6 an6 od7 an7 od8 an8 od9 an9 od10 an10 : Option Addr} {sl0 sl1 sl2 sl3 sl4 sl5 sl6 sl7 sl8 sl9 sl10 : Array (Option Value)} {oc0 kV0 dc0 pm0 cd0 ct0 oc1 kV1 dc1 pm1 cd1 ct1 oc2 kV2 dc2 pm2 cd2 ct2 oc3 kV3 dc3 pm3 cd3 ct3 oc4 kV4 dc4 pm4 cd4 ct4 oc5 kV5 dc5 pm5 cd5 ct5 oc6 kV6 dc6 pm6 cd6 ct6 oc7 kV7 dc7 pm7 cd7 ct7 oc8 kV8 dc8 pm8 cd8 ct8 oc9 kV9 dc9 pm9 cd9 ct9 oc10 kV10 dc10 pm10 cd10 ct10 : Value}
    (oc_hn : PySem.W.specialIn K (.builtin "object.__class__") "__get__" = some (some (.builtin "getset_descriptor.__get__")))
    (oc_ht : PySem.W.takesIn K (.builtin "object.__class__") = some true)
    (aC_DayError : PySem.W.nsIn K mainGlobals "DayError" = some (some (.ref C_DayError)))
    (eC_DayError : PySem.W.subIn K (.ref C_DayError) (.type "BaseException") = some true)
    (tyC_DayError : PySem.W.typeIn K (.ref C_DayError) = some (.type "type"))
    (icC_DayError : PySem.W.isClsIn K C_DayError = true)
    (aC_BadPart : PySem.W.nsIn K mainGlobals "BadPart" = some (some (.ref C_BadPart)))
    (xC_BadPart : K.lookup C_BadPart = some (excClassObj nm_BadPart q_BadPart C_BadPart N_BadPart bs_BadPart (.ref C_DayError :: PySem.HandSPX.veTail) true sn_BadPart sub_BadPart ab_BadPart col_BadPart dd_BadPart m0_BadPart m1_BadPart m2_BadPart m3_BadPart m5_BadPart "ValueError.__new__"))
    (saC_BadPart : PySem.W.findIn K (.ref C_BadPart) "__setattr__" = some (some (.builtin "object.__setattr__")))
    (gaC_BadPart : PySem.W.findIn K (.ref C_BadPart) "__getattribute__" = some (some (.builtin "BaseException.__getattribute__")))
    (ggC_BadPart : PySem.W.findIn K (.ref C_BadPart) "__getattr__" = some none)
    (haC_BadPart : PySem.W.findIn K (.ref C_BadPart) "__class__" = some (some (.builtin "object.__class__")))
    (nbC_BadPart : PySem.W.findIn K (.ref C_BadPart) "part" = some none)
    (iC_BadPart : PySem.W.findIn K (.ref C_BadPart) "__init__" = some (some (.ref I_BadPart)))
    (tiC_BadPart : PySem.W.typeIn K (.ref I_BadPart) = some (.type "function"))
    (lC_BadPart : K.lookup I_BadPart = some ⟨oc_BadPart, od_BadPart, .func (PySem.W.fnOf "__init__" "BadPart.__init__" (PySem.ErrBadPart.iA ⟨6, 17, 6, 21⟩ ⟨6, 23, 6, 27⟩) (PySem.ErrBadPart.iB ⟨7, 8, 7, 12⟩ ⟨7, 8, 7, 17⟩ ⟨7, 20, 7, 24⟩ ⟨7, 8, 7, 24⟩) PySem.ErrBadPart.iS .none .none dc_BadPart pm_BadPart an_BadPart cd_BadPart ct_BadPart), sl_BadPart⟩)
    (cC_BadPart : PySem.W.codeIn K cd_BadPart "BadPart.__init__" = true)
    (kC_BadPart : PySem.W.keepIn K (.ref C_BadPart) = true)
    (aC_BadNumber : PySem.W.nsIn K mainGlobals "BadNumber" = some (some (.ref C_BadNumber)))
    (xC_BadNumber : K.lookup C_BadNumber = some (excClassObj nm_BadNumber q_BadNumber C_BadNumber N_BadNumber bs_BadNumber (.ref C_DayError :: PySem.HandSPX.veTail) true sn_BadNumber sub_BadNumber ab_BadNumber col_BadNumber dd_BadNumber m0_BadNumber m1_BadNumber m2_BadNumber m3_BadNumber m5_BadNumber "ValueError.__new__"))
    (saC_BadNumber : PySem.W.findIn K (.ref C_BadNumber) "__setattr__" = some (some (.builtin "object.__setattr__")))
    (gaC_BadNumber : PySem.W.findIn K (.ref C_BadNumber) "__getattribute__" = some (some (.builtin "BaseException.__getattribute__")))
    (ggC_BadNumber : PySem.W.findIn K (.ref C_BadNumber) "__getattr__" = some none)
    (haC_BadNumber : PySem.W.findIn K (.ref C_BadNumber) "__class__" = some (some (.builtin "object.__class__")))
    (nbC_BadNumber : PySem.W.findIn K (.ref C_BadNumber) "number" = some none)
    (iC_BadNumber : PySem.W.findIn K (.ref C_BadNumber) "__init__" = some (some (.ref I_BadNumber)))
    (tiC_BadNumber : PySem.W.typeIn K (.ref I_BadNumber) = some (.type "function"))
    (lC_BadNumber : K.lookup I_BadNumber = some ⟨oc_BadNumber, od_BadNumber, .func (PySem.W.fnOf "__init__" "BadNumber.__init__" (PySem.ErrBadNumber.iA ⟨10, 17, 10, 21⟩ ⟨10, 23, 10, 29⟩) (PySem.ErrBadNumber.iB ⟨11, 8, 11, 12⟩ ⟨11, 8, 11, 19⟩ ⟨11, 22, 11, 28⟩ ⟨11, 8, 11, 28⟩) PySem.ErrBadNumber.iS .none .none dc_BadNumber pm_BadNumber an_BadNumber cd_BadNumber ct_BadNumber), sl_BadNumber⟩)
    (cC_BadNumber : PySem.W.codeIn K cd_BadNumber "BadNumber.__init__" = true)
    (kC_BadNumber : PySem.W.keepIn K (.ref C_BadNumber) = true)
    (aC_BadIndex : PySem.W.nsIn K mainGlobals "BadIndex" = some (some (.ref C_BadIndex)))
    (xC_BadIndex : K.lookup C_BadIndex = some (excClassObj nm_BadIndex q_BadIndex C_BadIndex N_BadIndex bs_BadIndex (.ref C_DayError :: PySem.HandSPX.veTail) true sn_BadIndex sub_BadIndex ab_BadIndex col_BadIndex dd_BadIndex m0_BadIndex m1_BadIndex m2_BadIndex m3_BadIndex m5_BadIndex "ValueError.__new__"))
    (saC_BadIndex : PySem.W.findIn K (.ref C_BadIndex) "__setattr__" = some (some (.builtin "object.__setattr__")))
    (gaC_BadIndex : PySem.W.findIn K (.ref C_BadIndex) "__getattribute__" = some (some (.builtin "BaseException.__getattribute__")))
    (ggC_BadIndex : PySem.W.findIn K (.ref C_BadIndex) "__getattr__" = some none)
    (haC_BadIndex : PySem.W.findIn K (.ref C_BadIndex) "__class__" = some (some (.builtin "object.__class__")))
    (nbC_BadIndex : PySem.W.findIn K (.ref C_BadIndex) "index" = some none)
    (iC_BadIndex : PySem.W.findIn K (.ref C_BadIndex) "__init__" = some (some (.ref I_BadIndex)))
    (tiC_BadIndex : PySem.W.typeIn K (.ref I_BadIndex) = some (.type "function"))
    (lC_BadIndex : K.lookup I_BadIndex = some ⟨oc_BadIndex, od_BadIndex, .func (PySem.W.fnOf "__init__" "BadIndex.__init__" (PySem.ErrBadIndex.iA ⟨14, 17, 14, 21⟩ ⟨14, 23, 14, 28⟩) (PySem.ErrBadIndex.iB ⟨15, 8, 15, 12⟩ ⟨15, 8, 15, 18⟩ ⟨15, 21, 15, 26⟩ ⟨15, 8, 15, 26⟩) PySem.ErrBadIndex.iS .none .none dc_BadIndex pm_BadIndex an_BadIndex cd_BadIndex ct_BadIndex), sl_BadIndex⟩)
    (cC_BadIndex : PySem.W.codeIn K cd_BadIndex "BadIndex.__init__" = true)
    (kC_BadIndex : PySem.W.keepIn K (.ref C_BadIndex) = true)
    (aC_BadName : PySem.W.nsIn K mainGlobals "BadName" = some (some (.ref C_BadName)))
    (xC_BadName : K.lookup C_BadName = some (excClassObj nm_BadName q_BadName C_BadName N_BadName bs_BadName (.ref C_DayError :: PySem.HandSPX.veTail) true sn_BadName sub_BadName ab_BadName col_BadName dd_BadName m0_BadName m1_BadName m2_BadName m3_BadName m5_BadName "ValueError.__new__"))
    (saC_BadName : PySem.W.findIn K (.ref C_BadName) "__setattr__" = some (some (.builtin "object.__setattr__")))
    (gaC_BadName : PySem.W.findIn K (.ref C_BadName) "__getattribute__" = some (some (.builtin "BaseException.__getattribute__")))
    (ggC_BadName : PySem.W.findIn K (.ref C_BadName) "__getattr__" = some none)
    (haC_BadName : PySem.W.findIn K (.ref C_BadName) "__class__" = some (some (.builtin "object.__class__")))
    (nbC_BadName : PySem.W.findIn K (.ref C_BadName) "name" = some none)
    (iC_BadName : PySem.W.findIn K (.ref C_BadName) "__init__" = some (some (.ref I_BadName)))
    (tiC_BadName : PySem.W.typeIn K (.ref I_BadName) = some (.type "function"))
    (lC_BadName : K.lookup I_BadName = some ⟨oc_BadName, od_BadName, .func (PySem.W.fnOf "__init__" "BadName.__init__" (PySem.ErrBadName.iA ⟨18, 17, 18, 21⟩ ⟨18, 23, 18, 27⟩) (PySem.ErrBadName.iB ⟨19, 8, 19, 12⟩ ⟨19, 8, 19, 17⟩ ⟨19, 20, 19, 24⟩ ⟨19, 8, 19, 24⟩) PySem.ErrBadName.iS .none .none dc_BadName pm_BadName an_BadName cd_BadName ct_BadName), sl_BadName⟩)
    (cC_BadName : PySem.W.codeIn K cd_BadName "BadName.__init__" = true)
    (kC_BadName : PySem.W.keepIn K (.ref C_BadName) = true)
    (aC_BadKey : PySem.W.nsIn K mainGlobals "BadKey" = some (some (.ref C_BadKey)))
    (xC_BadKey : K.lookup C_BadKey = some (excClassObj nm_BadKey q_BadKey C_BadKey N_BadKey bs_BadKey (.ref C_DayError :: PySem.HandSPX.veTail) true sn_BadKey sub_BadKey ab_BadKey col_BadKey dd_BadKey m0_BadKey m1_BadKey m2_BadKey m3_BadKey m5_BadKey "ValueError.__new__"))
    (saC_BadKey : PySem.W.findIn K (.ref C_BadKey) "__setattr__" = some (some (.builtin "object.__setattr__")))
    (gaC_BadKey : PySem.W.findIn K (.ref C_BadKey) "__getattribute__" = some (some (.builtin "BaseException.__getattribute__")))
    (ggC_BadKey : PySem.W.findIn K (.ref C_BadKey) "__getattr__" = some none)
    (haC_BadKey : PySem.W.findIn K (.ref C_BadKey) "__class__" = some (some (.builtin "object.__class__")))
    (nbC_BadKey : PySem.W.findIn K (.ref C_BadKey) "key" = some none)
    (iC_BadKey : PySem.W.findIn K (.ref C_BadKey) "__init__" = some (some (.ref I_BadKey)))
    (tiC_BadKey : PySem.W.typeIn K (.ref I_BadKey) = some (.type "function"))
    (lC_BadKey : K.lookup I_BadKey = some ⟨oc_BadKey, od_BadKey, .func (PySem.W.fnOf "__init__" "BadKey.__init__" (PySem.ErrBadKey.iA ⟨22, 17, 22, 21⟩ ⟨22, 23, 22, 26⟩) (PySem.ErrBadKey.iB ⟨23, 8, 23, 12⟩ ⟨23, 8, 23, 16⟩ ⟨23, 19, 23, 22⟩ ⟨23, 8, 23, 22⟩) PySem.ErrBadKey.iS .none .none dc_BadKey pm_BadKey an_BadKey cd_BadKey ct_BadKey), sl_BadKey⟩)
    (cC_BadKey : PySem.W.codeIn K cd_BadKey "BadKey.__init__" = true)
    (kC_BadKey : PySem.W.keepIn K (.ref C_BadKey) = true)
    (aC_BadErrand : PySem.W.nsIn K mainGlobals "BadErrand" = some (some (.ref C_BadErrand)))
    (xC_BadErrand : K.lookup C_BadErrand = some (excClassObj nm_BadErrand q_BadErrand C_BadErrand N_BadErrand bs_BadErrand (.ref C_DayError :: PySem.HandSPX.veTail) true sn_BadErrand sub_BadErrand ab_BadErrand col_BadErrand dd_BadErrand m0_BadErrand m1_BadErrand m2_BadErrand m3_BadErrand m5_BadErrand "ValueError.__new__"))
    (saC_BadErrand : PySem.W.findIn K (.ref C_BadErrand) "__setattr__" = some (some (.builtin "object.__setattr__")))
    (gaC_BadErrand : PySem.W.findIn K (.ref C_BadErrand) "__getattribute__" = some (some (.builtin "BaseException.__getattribute__")))
    (ggC_BadErrand : PySem.W.findIn K (.ref C_BadErrand) "__getattr__" = some none)
    (haC_BadErrand : PySem.W.findIn K (.ref C_BadErrand) "__class__" = some (some (.builtin "object.__class__")))
    (nbC_BadErrand : PySem.W.findIn K (.ref C_BadErrand) "index" = some none)
    (iC_BadErrand : PySem.W.findIn K (.ref C_BadErrand) "__init__" = some (some (.ref I_BadErrand)))
    (tiC_BadErrand : PySem.W.typeIn K (.ref I_BadErrand) = some (.type "function"))
    (lC_BadErrand : K.lookup I_BadErrand = some ⟨oc_BadErrand, od_BadErrand, .func (PySem.W.fnOf "__init__" "BadErrand.__init__" (PySem.ErrBadErrand.iA ⟨26, 17, 26, 21⟩ ⟨26, 23, 26, 28⟩) (PySem.ErrBadErrand.iB ⟨27, 8, 27, 12⟩ ⟨27, 8, 27, 18⟩ ⟨27, 21, 27, 26⟩ ⟨27, 8, 27, 26⟩) PySem.ErrBadErrand.iS .none .none dc_BadErrand pm_BadErrand an_BadErrand cd_BadErrand ct_BadErrand), sl_BadErrand⟩)
    (cC_BadErrand : PySem.W.codeIn K cd_BadErrand "BadErrand.__init__" = true)
    (kC_BadErrand : PySem.W.keepIn K (.ref C_BadErrand) = true)
    (aC_BadOrder : PySem.W.nsIn K mainGlobals "BadOrder" = some (some (.ref C_BadOrder)))
    (xC_BadOrder : K.lookup C_BadOrder = some (excClassObj nm_BadOrder q_BadOrder C_BadOrder N_BadOrder bs_BadOrder (.ref C_DayError :: PySem.HandSPX.veTail) true sn_BadOrder sub_BadOrder ab_BadOrder col_BadOrder dd_BadOrder m0_BadOrder m1_BadOrder m2_BadOrder m3_BadOrder m5_BadOrder "ValueError.__new__"))
    (saC_BadOrder : PySem.W.findIn K (.ref C_BadOrder) "__setattr__" = some (some (.builtin "object.__setattr__")))
    (gaC_BadOrder : PySem.W.findIn K (.ref C_BadOrder) "__getattribute__" = some (some (.builtin "BaseException.__getattribute__")))
    (ggC_BadOrder : PySem.W.findIn K (.ref C_BadOrder) "__getattr__" = some none)
    (haC_BadOrder : PySem.W.findIn K (.ref C_BadOrder) "__class__" = some (some (.builtin "object.__class__")))
    (nbC_BadOrder : PySem.W.findIn K (.ref C_BadOrder) "name" = some none)
    (iC_BadOrder : PySem.W.findIn K (.ref C_BadOrder) "__init__" = some (some (.ref I_BadOrder)))
    (tiC_BadOrder : PySem.W.typeIn K (.ref I_BadOrder) = some (.type "function"))
    (lC_BadOrder : K.lookup I_BadOrder = some ⟨oc_BadOrder, od_BadOrder, .func (PySem.W.fnOf "__init__" "BadOrder.__init__" (PySem.ErrBadOrder.iA ⟨30, 17, 30, 21⟩ ⟨30, 23, 30, 27⟩) (PySem.ErrBadOrder.iB ⟨31, 8, 31, 12⟩ ⟨31, 8, 31, 17⟩ ⟨31, 20, 31, 24⟩ ⟨31, 8, 31, 24⟩) PySem.ErrBadOrder.iS .none .none dc_BadOrder pm_BadOrder an_BadOrder cd_BadOrder ct_BadOrder), sl_BadOrder⟩)
    (cC_BadOrder : PySem.W.codeIn K cd_BadOrder "BadOrder.__init__" = true)
    (kC_BadOrder : PySem.W.keepIn K (.ref C_BadOrder) = true)
    (aC_NoWay : PySem.W.nsIn K mainGlobals "NoWay" = some (some (.ref C_NoWay)))
    (xC_NoWay : K.lookup C_NoWay = some (excClassObj nm_NoWay q_NoWay C_NoWay N_NoWay bs_NoWay (.ref C_DayError :: PySem.HandSPX.veTail) true sn_NoWay sub_NoWay ab_NoWay col_NoWay dd_NoWay m0_NoWay m1_NoWay m2_NoWay m3_NoWay m5_NoWay "ValueError.__new__"))
    (saC_NoWay : PySem.W.findIn K (.ref C_NoWay) "__setattr__" = some (some (.builtin "object.__setattr__")))
    (gaC_NoWay : PySem.W.findIn K (.ref C_NoWay) "__getattribute__" = some (some (.builtin "BaseException.__getattribute__")))
    (ggC_NoWay : PySem.W.findIn K (.ref C_NoWay) "__getattr__" = some none)
    (haC_NoWay : PySem.W.findIn K (.ref C_NoWay) "__class__" = some (some (.builtin "object.__class__")))
    (nbC_NoWay : PySem.W.findIn K (.ref C_NoWay) "pair" = some none)
    (iC_NoWay : PySem.W.findIn K (.ref C_NoWay) "__init__" = some (some (.ref I_NoWay)))
    (tiC_NoWay : PySem.W.typeIn K (.ref I_NoWay) = some (.type "function"))
    (lC_NoWay : K.lookup I_NoWay = some ⟨oc_NoWay, od_NoWay, .func (PySem.W.fnOf "__init__" "NoWay.__init__" (PySem.ErrNoWay.iA ⟨34, 17, 34, 21⟩ ⟨34, 23, 34, 27⟩) (PySem.ErrNoWay.iB ⟨35, 8, 35, 12⟩ ⟨35, 8, 35, 17⟩ ⟨35, 20, 35, 24⟩ ⟨35, 8, 35, 24⟩) PySem.ErrNoWay.iS .none .none dc_NoWay pm_NoWay an_NoWay cd_NoWay ct_NoWay), sl_NoWay⟩)
    (cC_NoWay : PySem.W.codeIn K cd_NoWay "NoWay.__init__" = true)
    (kC_NoWay : PySem.W.keepIn K (.ref C_NoWay) = true)
    (aC_Ring : PySem.W.nsIn K mainGlobals "Ring" = some (some (.ref C_Ring)))
    (xC_Ring : K.lookup C_Ring = some (excClassObj nm_Ring q_Ring C_Ring N_Ring bs_Ring (.ref C_DayError :: PySem.HandSPX.veTail) true sn_Ring sub_Ring ab_Ring col_Ring dd_Ring m0_Ring m1_Ring m2_Ring m3_Ring m5_Ring "ValueError.__new__"))
    (saC_Ring : PySem.W.findIn K (.ref C_Ring) "__setattr__" = some (some (.builtin "object.__setattr__")))
    (gaC_Ring : PySem.W.findIn K (.ref C_Ring) "__getattribute__" = some (some (.builtin "BaseException.__getattribute__")))
    (ggC_Ring : PySem.W.findIn K (.ref C_Ring) "__getattr__" = some none)
    (haC_Ring : PySem.W.findIn K (.ref C_Ring) "__class__" = some (some (.builtin "object.__class__")))
    (nbC_Ring : PySem.W.findIn K (.ref C_Ring) "ring" = some none)
    (iC_Ring : PySem.W.findIn K (.ref C_Ring) "__init__" = some (some (.ref I_Ring)))
    (tiC_Ring : PySem.W.typeIn K (.ref I_Ring) = some (.type "function"))
    (lC_Ring : K.lookup I_Ring = some ⟨oc_Ring, od_Ring, .func (PySem.W.fnOf "__init__" "Ring.__init__" (PySem.ErrRing.iA ⟨38, 17, 38, 21⟩ ⟨38, 23, 38, 27⟩) (PySem.ErrRing.iB ⟨39, 8, 39, 12⟩ ⟨39, 8, 39, 17⟩ ⟨39, 20, 39, 24⟩ ⟨39, 8, 39, 24⟩) PySem.ErrRing.iS .none .none dc_Ring pm_Ring an_Ring cd_Ring ct_Ring), sl_Ring⟩)
    (cC_Ring : PySem.W.codeIn K cd_Ring "Ring.__init__" = true)
    (kC_Ring : PySem.W.keepIn K (.ref C_Ring) = true)
    (aC_BadThing : PySem.W.nsIn K mainGlobals "BadThing" = some (some (.ref C_BadThing)))
    (xC_BadThing : K.lookup C_BadThing = some (excClassObj nm_BadThing q_BadThing C_BadThing N_BadThing bs_BadThing (.ref C_DayError :: PySem.HandSPX.veTail) true sn_BadThing sub_BadThing ab_BadThing col_BadThing dd_BadThing m0_BadThing m1_BadThing m2_BadThing m3_BadThing m5_BadThing "ValueError.__new__"))
    (saC_BadThing : PySem.W.findIn K (.ref C_BadThing) "__setattr__" = some (some (.builtin "object.__setattr__")))
    (gaC_BadThing : PySem.W.findIn K (.ref C_BadThing) "__getattribute__" = some (some (.builtin "BaseException.__getattribute__")))
    (ggC_BadThing : PySem.W.findIn K (.ref C_BadThing) "__getattr__" = some none)
    (haC_BadThing : PySem.W.findIn K (.ref C_BadThing) "__class__" = some (some (.builtin "object.__class__")))
    (nbC_BadThing : PySem.W.findIn K (.ref C_BadThing) "thing" = some none)
    (iC_BadThing : PySem.W.findIn K (.ref C_BadThing) "__init__" = some (some (.ref I_BadThing)))
    (tiC_BadThing : PySem.W.typeIn K (.ref I_BadThing) = some (.type "function"))
    (lC_BadThing : K.lookup I_BadThing = some ⟨oc_BadThing, od_BadThing, .func (PySem.W.fnOf "__init__" "BadThing.__init__" (PySem.ErrBadThing.iA ⟨42, 17, 42, 21⟩ ⟨42, 23, 42, 28⟩) (PySem.ErrBadThing.iB ⟨43, 8, 43, 12⟩ ⟨43, 8, 43, 18⟩ ⟨43, 21, 43, 26⟩ ⟨43, 8, 43, 26⟩) PySem.ErrBadThing.iS .none .none dc_BadThing pm_BadThing an_BadThing cd_BadThing ct_BadThing), sl_BadThing⟩)
    (cC_BadThing : PySem.W.codeIn K cd_BadThing "BadThing.__init__" = true)
    (kC_BadThing : PySem.W.keepIn K (.ref C_BadThing) = true)
    (aC_NotSo : PySem.W.nsIn K mainGlobals "NotSo" = some (some (.ref C_NotSo)))
    (xC_NotSo : K.lookup C_NotSo = some (excClassObj nm_NotSo q_NotSo C_NotSo N_NotSo bs_NotSo (.ref C_DayError :: PySem.HandSPX.veTail) true sn_NotSo sub_NotSo ab_NotSo col_NotSo dd_NotSo m0_NotSo m1_NotSo m2_NotSo m3_NotSo m5_NotSo "ValueError.__new__"))
    (saC_NotSo : PySem.W.findIn K (.ref C_NotSo) "__setattr__" = some (some (.builtin "object.__setattr__")))
    (gaC_NotSo : PySem.W.findIn K (.ref C_NotSo) "__getattribute__" = some (some (.builtin "BaseException.__getattribute__")))
    (ggC_NotSo : PySem.W.findIn K (.ref C_NotSo) "__getattr__" = some none)
    (haC_NotSo : PySem.W.findIn K (.ref C_NotSo) "__class__" = some (some (.builtin "object.__class__")))
    (nbC_NotSo : PySem.W.findIn K (.ref C_NotSo) "word" = some none)
    (iC_NotSo : PySem.W.findIn K (.ref C_NotSo) "__init__" = some (some (.ref I_NotSo)))
    (tiC_NotSo : PySem.W.typeIn K (.ref I_NotSo) = some (.type "function"))
    (lC_NotSo : K.lookup I_NotSo = some ⟨oc_NotSo, od_NotSo, .func (PySem.W.fnOf "__init__" "NotSo.__init__" (PySem.ErrNotSo.iA ⟨46, 17, 46, 21⟩ ⟨46, 23, 46, 27⟩) (PySem.ErrNotSo.iB ⟨47, 8, 47, 12⟩ ⟨47, 8, 47, 17⟩ ⟨47, 20, 47, 24⟩ ⟨47, 8, 47, 24⟩) PySem.ErrNotSo.iS .none .none dc_NotSo pm_NotSo an_NotSo cd_NotSo ct_NotSo), sl_NotSo⟩)
    (cC_NotSo : PySem.W.codeIn K cd_NotSo "NotSo.__init__" = true)
    (kC_NotSo : PySem.W.keepIn K (.ref C_NotSo) = true)
    (aC_BadPaper : PySem.W.nsIn K mainGlobals "BadPaper" = some (some (.ref C_BadPaper)))
    (xC_BadPaper : K.lookup C_BadPaper = some (excClassObj nm_BadPaper q_BadPaper C_BadPaper N_BadPaper bs_BadPaper (.ref C_DayError :: PySem.HandSPX.veTail) true sn_BadPaper sub_BadPaper ab_BadPaper col_BadPaper dd_BadPaper m0_BadPaper m1_BadPaper m2_BadPaper m3_BadPaper m5_BadPaper "ValueError.__new__"))
    (saC_BadPaper : PySem.W.findIn K (.ref C_BadPaper) "__setattr__" = some (some (.builtin "object.__setattr__")))
    (gaC_BadPaper : PySem.W.findIn K (.ref C_BadPaper) "__getattribute__" = some (some (.builtin "BaseException.__getattribute__")))
    (ggC_BadPaper : PySem.W.findIn K (.ref C_BadPaper) "__getattr__" = some none)
    (haC_BadPaper : PySem.W.findIn K (.ref C_BadPaper) "__class__" = some (some (.builtin "object.__class__")))
    (nbC_BadPaper : PySem.W.findIn K (.ref C_BadPaper) "reason" = some none)
    (iC_BadPaper : PySem.W.findIn K (.ref C_BadPaper) "__init__" = some (some (.ref I_BadPaper)))
    (tiC_BadPaper : PySem.W.typeIn K (.ref I_BadPaper) = some (.type "function"))
    (lC_BadPaper : K.lookup I_BadPaper = some ⟨oc_BadPaper, od_BadPaper, .func (PySem.W.fnOf "__init__" "BadPaper.__init__" (PySem.ErrBadPaper.iA ⟨50, 17, 50, 21⟩ ⟨50, 23, 50, 29⟩) (PySem.ErrBadPaper.iB ⟨51, 8, 51, 12⟩ ⟨51, 8, 51, 19⟩ ⟨51, 22, 51, 28⟩ ⟨51, 8, 51, 28⟩) PySem.ErrBadPaper.iS .none .none dc_BadPaper pm_BadPaper an_BadPaper cd_BadPaper ct_BadPaper), sl_BadPaper⟩)
    (cC_BadPaper : PySem.W.codeIn K cd_BadPaper "BadPaper.__init__" = true)
    (kC_BadPaper : PySem.W.keepIn K (.ref C_BadPaper) = true)
    (aC_BadTiding : PySem.W.nsIn K mainGlobals "BadTiding" = some (some (.ref C_BadTiding)))
    (xC_BadTiding : K.lookup C_BadTiding = some (excClassObj nm_BadTiding q_BadTiding C_BadTiding N_BadTiding bs_BadTiding (.ref C_DayError :: PySem.HandSPX.veTail) true sn_BadTiding sub_BadTiding ab_BadTiding col_BadTiding dd_BadTiding m0_BadTiding m1_BadTiding m2_BadTiding m3_BadTiding m5_BadTiding "ValueError.__new__"))
    (saC_BadTiding : PySem.W.findIn K (.ref C_BadTiding) "__setattr__" = some (some (.builtin "object.__setattr__")))
    (gaC_BadTiding : PySem.W.findIn K (.ref C_BadTiding) "__getattribute__" = some (some (.builtin "BaseException.__getattribute__")))
    (ggC_BadTiding : PySem.W.findIn K (.ref C_BadTiding) "__getattr__" = some none)
    (haC_BadTiding : PySem.W.findIn K (.ref C_BadTiding) "__class__" = some (some (.builtin "object.__class__")))
    (nbC_BadTiding : PySem.W.findIn K (.ref C_BadTiding) "index" = some none)
    (iC_BadTiding : PySem.W.findIn K (.ref C_BadTiding) "__init__" = some (some (.ref I_BadTiding)))
    (tiC_BadTiding : PySem.W.typeIn K (.ref I_BadTiding) = some (.type "function"))
    (lC_BadTiding : K.lookup I_BadTiding = some ⟨oc_BadTiding, od_BadTiding, .func (PySem.W.fnOf "__init__" "BadTiding.__init__" (PySem.ErrBadTiding.iA ⟨54, 17, 54, 21⟩ ⟨54, 23, 54, 28⟩) (PySem.ErrBadTiding.iB ⟨55, 8, 55, 12⟩ ⟨55, 8, 55, 18⟩ ⟨55, 21, 55, 26⟩ ⟨55, 8, 55, 26⟩) PySem.ErrBadTiding.iS .none .none dc_BadTiding pm_BadTiding an_BadTiding cd_BadTiding ct_BadTiding), sl_BadTiding⟩)
    (cC_BadTiding : PySem.W.codeIn K cd_BadTiding "BadTiding.__init__" = true)
    (kC_BadTiding : PySem.W.keepIn K (.ref C_BadTiding) = true)
    (aC_BadMenu : PySem.W.nsIn K mainGlobals "BadMenu" = some (some (.ref C_BadMenu)))
    (xC_BadMenu : K.lookup C_BadMenu = some (excClassObj nm_BadMenu q_BadMenu C_BadMenu N_BadMenu bs_BadMenu (.ref C_DayError :: PySem.HandSPX.veTail) true sn_BadMenu sub_BadMenu ab_BadMenu col_BadMenu dd_BadMenu m0_BadMenu m1_BadMenu m2_BadMenu m3_BadMenu m5_BadMenu "ValueError.__new__"))
    (saC_BadMenu : PySem.W.findIn K (.ref C_BadMenu) "__setattr__" = some (some (.builtin "object.__setattr__")))
    (gaC_BadMenu : PySem.W.findIn K (.ref C_BadMenu) "__getattribute__" = some (some (.builtin "BaseException.__getattribute__")))
    (ggC_BadMenu : PySem.W.findIn K (.ref C_BadMenu) "__getattr__" = some none)
    (haC_BadMenu : PySem.W.findIn K (.ref C_BadMenu) "__class__" = some (some (.builtin "object.__class__")))
    (nbC_BadMenu : PySem.W.findIn K (.ref C_BadMenu) "index" = some none)
    (iC_BadMenu : PySem.W.findIn K (.ref C_BadMenu) "__init__" = some (some (.ref I_BadMenu)))
    (tiC_BadMenu : PySem.W.typeIn K (.ref I_BadMenu) = some (.type "function"))
    (lC_BadMenu : K.lookup I_BadMenu = some ⟨oc_BadMenu, od_BadMenu, .func (PySem.W.fnOf "__init__" "BadMenu.__init__" (PySem.ErrBadMenu.iA ⟨58, 17, 58, 21⟩ ⟨58, 23, 58, 28⟩) (PySem.ErrBadMenu.iB ⟨59, 8, 59, 12⟩ ⟨59, 8, 59, 18⟩ ⟨59, 21, 59, 26⟩ ⟨59, 8, 59, 26⟩) PySem.ErrBadMenu.iS .none .none dc_BadMenu pm_BadMenu an_BadMenu cd_BadMenu ct_BadMenu), sl_BadMenu⟩)
    (cC_BadMenu : PySem.W.codeIn K cd_BadMenu "BadMenu.__init__" = true)
    (kC_BadMenu : PySem.W.keepIn K (.ref C_BadMenu) = true)
    (aC_BadText : PySem.W.nsIn K mainGlobals "BadText" = some (some (.ref C_BadText)))
    (xC_BadText : K.lookup C_BadText = some (excClassObj nm_BadText q_BadText C_BadText N_BadText bs_BadText (.ref C_DayError :: PySem.HandSPX.veTail) true sn_BadText sub_BadText ab_BadText col_BadText dd_BadText m0_BadText m1_BadText m2_BadText m3_BadText m5_BadText "ValueError.__new__"))
    (saC_BadText : PySem.W.findIn K (.ref C_BadText) "__setattr__" = some (some (.builtin "object.__setattr__")))
    (gaC_BadText : PySem.W.findIn K (.ref C_BadText) "__getattribute__" = some (some (.builtin "BaseException.__getattribute__")))
    (ggC_BadText : PySem.W.findIn K (.ref C_BadText) "__getattr__" = some none)
    (haC_BadText : PySem.W.findIn K (.ref C_BadText) "__class__" = some (some (.builtin "object.__class__")))
    (nbC_BadText : PySem.W.findIn K (.ref C_BadText) "line" = some none)
    (iC_BadText : PySem.W.findIn K (.ref C_BadText) "__init__" = some (some (.ref I_BadText)))
    (tiC_BadText : PySem.W.typeIn K (.ref I_BadText) = some (.type "function"))
    (lC_BadText : K.lookup I_BadText = some ⟨oc_BadText, od_BadText, .func (PySem.W.fnOf "__init__" "BadText.__init__" (PySem.ErrBadText.iA ⟨62, 17, 62, 21⟩ ⟨62, 23, 62, 27⟩) (PySem.ErrBadText.iB ⟨63, 8, 63, 12⟩ ⟨63, 8, 63, 17⟩ ⟨63, 20, 63, 24⟩ ⟨63, 8, 63, 24⟩) PySem.ErrBadText.iS .none .none dc_BadText pm_BadText an_BadText cd_BadText ct_BadText), sl_BadText⟩)
    (cC_BadText : PySem.W.codeIn K cd_BadText "BadText.__init__" = true)
    (kC_BadText : PySem.W.keepIn K (.ref C_BadText) = true)
    (aC_BadDeed : PySem.W.nsIn K mainGlobals "BadDeed" = some (some (.ref C_BadDeed)))
    (xC_BadDeed : K.lookup C_BadDeed = some (excClassObj nm_BadDeed q_BadDeed C_BadDeed N_BadDeed bs_BadDeed (.ref C_DayError :: PySem.HandSPX.veTail) true sn_BadDeed sub_BadDeed ab_BadDeed col_BadDeed dd_BadDeed m0_BadDeed m1_BadDeed m2_BadDeed m3_BadDeed m5_BadDeed "ValueError.__new__"))
    (saC_BadDeed : PySem.W.findIn K (.ref C_BadDeed) "__setattr__" = some (some (.builtin "object.__setattr__")))
    (gaC_BadDeed : PySem.W.findIn K (.ref C_BadDeed) "__getattribute__" = some (some (.builtin "BaseException.__getattribute__")))
    (ggC_BadDeed : PySem.W.findIn K (.ref C_BadDeed) "__getattr__" = some none)
    (haC_BadDeed : PySem.W.findIn K (.ref C_BadDeed) "__class__" = some (some (.builtin "object.__class__")))
    (nbC_BadDeed : PySem.W.findIn K (.ref C_BadDeed) "index" = some none)
    (iC_BadDeed : PySem.W.findIn K (.ref C_BadDeed) "__init__" = some (some (.ref I_BadDeed)))
    (tiC_BadDeed : PySem.W.typeIn K (.ref I_BadDeed) = some (.type "function"))
    (lC_BadDeed : K.lookup I_BadDeed = some ⟨oc_BadDeed, od_BadDeed, .func (PySem.W.fnOf "__init__" "BadDeed.__init__" (PySem.ErrBadDeed.iA ⟨66, 17, 66, 21⟩ ⟨66, 23, 66, 28⟩) (PySem.ErrBadDeed.iB ⟨67, 8, 67, 12⟩ ⟨67, 8, 67, 18⟩ ⟨67, 21, 67, 26⟩ ⟨67, 8, 67, 26⟩) PySem.ErrBadDeed.iS .none .none dc_BadDeed pm_BadDeed an_BadDeed cd_BadDeed ct_BadDeed), sl_BadDeed⟩)
    (cC_BadDeed : PySem.W.codeIn K cd_BadDeed "BadDeed.__init__" = true)
    (kC_BadDeed : PySem.W.keepIn K (.ref C_BadDeed) = true)
    (aC_Promised : PySem.W.nsIn K mainGlobals "Promised" = some (some (.ref C_Promised)))
    (xC_Promised : K.lookup C_Promised = some (excClassObj nm_Promised q_Promised C_Promised N_Promised bs_Promised (.ref C_DayError :: PySem.HandSPX.veTail) true sn_Promised sub_Promised ab_Promised col_Promised dd_Promised m0_Promised m1_Promised m2_Promised m3_Promised m5_Promised "ValueError.__new__"))
    (saC_Promised : PySem.W.findIn K (.ref C_Promised) "__setattr__" = some (some (.builtin "object.__setattr__")))
    (gaC_Promised : PySem.W.findIn K (.ref C_Promised) "__getattribute__" = some (some (.builtin "BaseException.__getattribute__")))
    (ggC_Promised : PySem.W.findIn K (.ref C_Promised) "__getattr__" = some none)
    (haC_Promised : PySem.W.findIn K (.ref C_Promised) "__class__" = some (some (.builtin "object.__class__")))
    (nbC_Promised : PySem.W.findIn K (.ref C_Promised) "key" = some none)
    (iC_Promised : PySem.W.findIn K (.ref C_Promised) "__init__" = some (some (.ref I_Promised)))
    (tiC_Promised : PySem.W.typeIn K (.ref I_Promised) = some (.type "function"))
    (lC_Promised : K.lookup I_Promised = some ⟨oc_Promised, od_Promised, .func (PySem.W.fnOf "__init__" "Promised.__init__" (PySem.ErrPromised.iA ⟨70, 17, 70, 21⟩ ⟨70, 23, 70, 26⟩) (PySem.ErrPromised.iB ⟨71, 8, 71, 12⟩ ⟨71, 8, 71, 16⟩ ⟨71, 19, 71, 22⟩ ⟨71, 8, 71, 22⟩) PySem.ErrPromised.iS .none .none dc_Promised pm_Promised an_Promised cd_Promised ct_Promised), sl_Promised⟩)
    (cC_Promised : PySem.W.codeIn K cd_Promised "Promised.__init__" = true)
    (kC_Promised : PySem.W.keepIn K (.ref C_Promised) = true)
    (aC_Fixed : PySem.W.nsIn K mainGlobals "Fixed" = some (some (.ref C_Fixed)))
    (xC_Fixed : K.lookup C_Fixed = some (excClassObj nm_Fixed q_Fixed C_Fixed N_Fixed bs_Fixed (.ref C_DayError :: PySem.HandSPX.veTail) true sn_Fixed sub_Fixed ab_Fixed col_Fixed dd_Fixed m0_Fixed m1_Fixed m2_Fixed m3_Fixed m5_Fixed "ValueError.__new__"))
    (saC_Fixed : PySem.W.findIn K (.ref C_Fixed) "__setattr__" = some (some (.builtin "object.__setattr__")))
    (gaC_Fixed : PySem.W.findIn K (.ref C_Fixed) "__getattribute__" = some (some (.builtin "BaseException.__getattribute__")))
    (ggC_Fixed : PySem.W.findIn K (.ref C_Fixed) "__getattr__" = some none)
    (haC_Fixed : PySem.W.findIn K (.ref C_Fixed) "__class__" = some (some (.builtin "object.__class__")))
    (nbC_Fixed : PySem.W.findIn K (.ref C_Fixed) "key" = some none)
    (iC_Fixed : PySem.W.findIn K (.ref C_Fixed) "__init__" = some (some (.ref I_Fixed)))
    (tiC_Fixed : PySem.W.typeIn K (.ref I_Fixed) = some (.type "function"))
    (lC_Fixed : K.lookup I_Fixed = some ⟨oc_Fixed, od_Fixed, .func (PySem.W.fnOf "__init__" "Fixed.__init__" (PySem.ErrFixed.iA ⟨74, 17, 74, 21⟩ ⟨74, 23, 74, 26⟩) (PySem.ErrFixed.iB ⟨75, 8, 75, 12⟩ ⟨75, 8, 75, 16⟩ ⟨75, 19, 75, 22⟩ ⟨75, 8, 75, 22⟩) PySem.ErrFixed.iS .none .none dc_Fixed pm_Fixed an_Fixed cd_Fixed ct_Fixed), sl_Fixed⟩)
    (cC_Fixed : PySem.W.codeIn K cd_Fixed "Fixed.__init__" = true)
    (kC_Fixed : PySem.W.keepIn K (.ref C_Fixed) = true)
    (aC_TooMany : PySem.W.nsIn K mainGlobals "TooMany" = some (some (.ref C_TooMany)))
    (xC_TooMany : K.lookup C_TooMany = some (excClassObj nm_TooMany q_TooMany C_TooMany N_TooMany bs_TooMany PySem.HandSPX.oeTail true sn_TooMany sub_TooMany ab_TooMany col_TooMany dd_TooMany m0_TooMany m1_TooMany m2_TooMany m3_TooMany m5_TooMany "OverflowError.__new__"))
    (saC_TooMany : PySem.W.findIn K (.ref C_TooMany) "__setattr__" = some (some (.builtin "object.__setattr__")))
    (gaC_TooMany : PySem.W.findIn K (.ref C_TooMany) "__getattribute__" = some (some (.builtin "BaseException.__getattribute__")))
    (ggC_TooMany : PySem.W.findIn K (.ref C_TooMany) "__getattr__" = some none)
    (haC_TooMany : PySem.W.findIn K (.ref C_TooMany) "__class__" = some (some (.builtin "object.__class__")))
    (nbC_TooMany : PySem.W.findIn K (.ref C_TooMany) "limit" = some none)
    (iC_TooMany : PySem.W.findIn K (.ref C_TooMany) "__init__" = some (some (.ref I_TooMany)))
    (tiC_TooMany : PySem.W.typeIn K (.ref I_TooMany) = some (.type "function"))
    (lC_TooMany : K.lookup I_TooMany = some ⟨oc_TooMany, od_TooMany, .func (PySem.W.fnOf "__init__" "TooMany.__init__" (PySem.ErrTooMany.iA ⟨78, 17, 78, 21⟩ ⟨78, 23, 78, 28⟩) (PySem.ErrTooMany.iB ⟨79, 8, 79, 12⟩ ⟨79, 8, 79, 18⟩ ⟨79, 21, 79, 26⟩ ⟨79, 8, 79, 26⟩) PySem.ErrTooMany.iS .none .none dc_TooMany pm_TooMany an_TooMany cd_TooMany ct_TooMany), sl_TooMany⟩)
    (cC_TooMany : PySem.W.codeIn K cd_TooMany "TooMany.__init__" = true)
    (kC_TooMany : PySem.W.keepIn K (.ref C_TooMany) = true)
    (aC_NothingToUndo : PySem.W.nsIn K mainGlobals "NothingToUndo" = some (some (.ref C_NothingToUndo)))
    (xC_NothingToUndo : K.lookup C_NothingToUndo = some (excClassObj nm_NothingToUndo q_NothingToUndo C_NothingToUndo N_NothingToUndo bs_NothingToUndo PySem.HandSPX.reTail true sn_NothingToUndo sub_NothingToUndo ab_NothingToUndo col_NothingToUndo dd_NothingToUndo m0_NothingToUndo m1_NothingToUndo m2_NothingToUndo m3_NothingToUndo m5_NothingToUndo "RuntimeError.__new__"))
    (saC_NothingToUndo : PySem.W.findIn K (.ref C_NothingToUndo) "__setattr__" = some (some (.builtin "object.__setattr__")))
    (gaC_NothingToUndo : PySem.W.findIn K (.ref C_NothingToUndo) "__getattribute__" = some (some (.builtin "BaseException.__getattribute__")))
    (ggC_NothingToUndo : PySem.W.findIn K (.ref C_NothingToUndo) "__getattr__" = some none)
    (haC_NothingToUndo : PySem.W.findIn K (.ref C_NothingToUndo) "__class__" = some (some (.builtin "object.__class__")))
    (nbC_NothingToUndo : PySem.W.findIn K (.ref C_NothingToUndo) "name" = some none)
    (iC_NothingToUndo : PySem.W.findIn K (.ref C_NothingToUndo) "__init__" = some (some (.ref I_NothingToUndo)))
    (tiC_NothingToUndo : PySem.W.typeIn K (.ref I_NothingToUndo) = some (.type "function"))
    (lC_NothingToUndo : K.lookup I_NothingToUndo = some ⟨oc_NothingToUndo, od_NothingToUndo, .func (PySem.W.fnOf "__init__" "NothingToUndo.__init__" (PySem.ErrNothingToUndo.iA ⟨82, 17, 82, 21⟩ ⟨82, 23, 82, 27⟩) (PySem.ErrNothingToUndo.iB ⟨83, 8, 83, 12⟩ ⟨83, 8, 83, 17⟩ ⟨83, 20, 83, 24⟩ ⟨83, 8, 83, 24⟩) PySem.ErrNothingToUndo.iS .none .none dc_NothingToUndo pm_NothingToUndo an_NothingToUndo cd_NothingToUndo ct_NothingToUndo), sl_NothingToUndo⟩)
    (cC_NothingToUndo : PySem.W.codeIn K cd_NothingToUndo "NothingToUndo.__init__" = true)
    (kC_NothingToUndo : PySem.W.keepIn K (.ref C_NothingToUndo) = true)
    (D_nd : (C_DayError :: [C_BadPart, C_BadNumber, C_BadIndex, C_BadName, C_BadKey, C_BadErrand, C_BadOrder, C_NoWay, C_Ring, C_BadThing, C_NotSo, C_BadPaper, C_BadTiding, C_BadMenu, C_BadText, C_BadDeed, C_Promised, C_Fixed, C_TooMany, C_NothingToUndo]).Nodup)
    (Z_len : PySem.W.nsIn K mainGlobals "len" = some none)
    (Z_abs : PySem.W.nsIn K mainGlobals "abs" = some none)
    (Z_int : PySem.W.nsIn K mainGlobals "int" = some none)
    (Z_isinstance : PySem.W.nsIn K mainGlobals "isinstance" = some none)
    (Z_range : PySem.W.nsIn K mainGlobals "range" = some none)
    (Z_ValueError : PySem.W.nsIn K mainGlobals "ValueError" = some none)
    (a0 : PySem.W.nsIn K mainGlobals "_law_start" = some (some (.ref f0)))
    (l0 : K.lookup f0 = some ⟨oc0, od0, .func (PySem.W.fnOf "_law_start" "_law_start" (defArgs (top 23)) (defBody (top 23)) (defScope (top 23)) .none kV0 dc0 pm0 an0 cd0 ct0), sl0⟩)
    (c0 : PySem.W.codeIn K cd0 "_law_start" = true)
    (k0 : PySem.W.keepIn K (.ref f0) = true)
    (a1 : PySem.W.nsIn K mainGlobals "_law_draw" = some (some (.ref f1)))
    (l1 : K.lookup f1 = some ⟨oc1, od1, .func (PySem.W.fnOf "_law_draw" "_law_draw" (defArgs (top 24)) (defBody (top 24)) (defScope (top 24)) .none kV1 dc1 pm1 an1 cd1 ct1), sl1⟩)
    (c1 : PySem.W.codeIn K cd1 "_law_draw" = true)
    (k1 : PySem.W.keepIn K (.ref f1) = true)
    (a2 : PySem.W.nsIn K mainGlobals "_law_throw_other" = some (some (.ref f2)))
    (l2 : K.lookup f2 = some ⟨oc2, od2, .func (PySem.W.fnOf "_law_throw_other" "_law_throw_other" (defArgs (top 25)) (defBody (top 25)) (defScope (top 25)) .none kV2 dc2 pm2 an2 cd2 ct2), sl2⟩)
    (c2 : PySem.W.codeIn K cd2 "_law_throw_other" = true)
    (k2 : PySem.W.keepIn K (.ref f2) = true)
    (a3 : PySem.W.nsIn K mainGlobals "_law_throw" = some (some (.ref f3)))
    (l3 : K.lookup f3 = some ⟨oc3, od3, .func (PySem.W.fnOf "_law_throw" "_law_throw" (defArgs (top 26)) (defBody (top 26)) (defScope (top 26)) .none kV3 dc3 pm3 an3 cd3 ct3), sl3⟩)
    (c3 : PySem.W.codeIn K cd3 "_law_throw" = true)
    (k3 : PySem.W.keepIn K (.ref f3) = true)
    (a4 : PySem.W.nsIn K mainGlobals "_law_named_other" = some (some (.ref f4)))
    (l4 : K.lookup f4 = some ⟨oc4, od4, .func (PySem.W.fnOf "_law_named_other" "_law_named_other" (defArgs (top 27)) (defBody (top 27)) (defScope (top 27)) .none kV4 dc4 pm4 an4 cd4 ct4), sl4⟩)
    (c4 : PySem.W.codeIn K cd4 "_law_named_other" = true)
    (k4 : PySem.W.keepIn K (.ref f4) = true)
    (a5 : PySem.W.nsIn K mainGlobals "_law_named" = some (some (.ref f5)))
    (l5 : K.lookup f5 = some ⟨oc5, od5, .func (PySem.W.fnOf "_law_named" "_law_named" (defArgs (top 28)) (defBody (top 28)) (defScope (top 28)) .none kV5 dc5 pm5 an5 cd5 ct5), sl5⟩)
    (c5 : PySem.W.codeIn K cd5 "_law_named" = true)
    (k5 : PySem.W.keepIn K (.ref f5) = true)
    (a6 : PySem.W.nsIn K mainGlobals "_law_kept" = some (some (.ref f6)))
    (l6 : K.lookup f6 = some ⟨oc6, od6, .func (PySem.W.fnOf "_law_kept" "_law_kept" (defArgs (top 29)) (defBody (top 29)) (defScope (top 29)) .none kV6 dc6 pm6 an6 cd6 ct6), sl6⟩)
    (c6 : PySem.W.codeIn K cd6 "_law_kept" = true)
    (k6 : PySem.W.keepIn K (.ref f6) = true)
    (a7 : PySem.W.nsIn K mainGlobals "_law_kinds" = some (some (.ref f7)))
    (l7 : K.lookup f7 = some ⟨oc7, od7, .func (PySem.W.fnOf "_law_kinds" "_law_kinds" (defArgs (top 30)) (defBody (top 30)) (defScope (top 30)) .none kV7 dc7 pm7 an7 cd7 ct7), sl7⟩)
    (c7 : PySem.W.codeIn K cd7 "_law_kinds" = true)
    (k7 : PySem.W.keepIn K (.ref f7) = true)
    (a8 : PySem.W.nsIn K mainGlobals "_law_caught" = some (some (.ref f8)))
    (l8 : K.lookup f8 = some ⟨oc8, od8, .func (PySem.W.fnOf "_law_caught" "_law_caught" (defArgs (top 31)) (defBody (top 31)) (defScope (top 31)) .none kV8 dc8 pm8 an8 cd8 ct8), sl8⟩)
    (c8 : PySem.W.codeIn K cd8 "_law_caught" = true)
    (k8 : PySem.W.keepIn K (.ref f8) = true)
    (a9 : PySem.W.nsIn K mainGlobals "_law_value" = some (some (.ref f9)))
    (l9 : K.lookup f9 = some ⟨oc9, od9, .func (PySem.W.fnOf "_law_value" "_law_value" (defArgs (top 32)) (defBody (top 32)) (defScope (top 32)) .none kV9 dc9 pm9 an9 cd9 ct9), sl9⟩)
    (c9 : PySem.W.codeIn K cd9 "_law_value" = true)
    (k9 : PySem.W.keepIn K (.ref f9) = true)
    (a10 : PySem.W.nsIn K mainGlobals "law" = some (some (.ref f10)))
    (l10 : K.lookup f10 = some ⟨oc10, od10, .func (PySem.W.fnOf "law" "law" (defArgs (top 33)) (defBody (top 33)) (defScope (top 33)) .none kV10 dc10 pm10 an10 cd10 ct10), sl10⟩)
    (c10 : PySem.W.codeIn K cd10 "law" = true)
    (k10 : PySem.W.keepIn K (.ref f10) = true)
    (math : ∀ [TabsW] [GdW] (ns : List Int), ns.length ≤ 63 → ∃ out, semB g_law 5 none b_law [.lst (ns.map .int)] = .ok (.bl true) out)
    : @LawG ⟨True⟩ l w K (L2.CX l.prog w) 4 63 "_law_script" mg fa h := by
  letI I1 : TabsW := ⟨[]⟩
  letI I0 : GdW := ⟨True⟩
  have e := hfa.symm.trans (PySem.W.mg_of X G a10)
  cases e
  have g_DayError := PySem.W.mg_of X G aC_DayError
  have g_BadPart := PySem.W.mg_of X G aC_BadPart
  have h_BadPart := clsAt_of aC_BadPart
  subst h_BadPart
  have g_BadNumber := PySem.W.mg_of X G aC_BadNumber
  have h_BadNumber := clsAt_of aC_BadNumber
  subst h_BadNumber
  have g_BadIndex := PySem.W.mg_of X G aC_BadIndex
  have h_BadIndex := clsAt_of aC_BadIndex
  subst h_BadIndex
  have g_BadName := PySem.W.mg_of X G aC_BadName
  have h_BadName := clsAt_of aC_BadName
  subst h_BadName
  have g_BadKey := PySem.W.mg_of X G aC_BadKey
  have h_BadKey := clsAt_of aC_BadKey
  subst h_BadKey
  have g_BadErrand := PySem.W.mg_of X G aC_BadErrand
  have h_BadErrand := clsAt_of aC_BadErrand
  subst h_BadErrand
  have g_BadOrder := PySem.W.mg_of X G aC_BadOrder
  have h_BadOrder := clsAt_of aC_BadOrder
  subst h_BadOrder
  have g_NoWay := PySem.W.mg_of X G aC_NoWay
  have h_NoWay := clsAt_of aC_NoWay
  subst h_NoWay
  have g_Ring := PySem.W.mg_of X G aC_Ring
  have h_Ring := clsAt_of aC_Ring
  subst h_Ring
  have g_BadThing := PySem.W.mg_of X G aC_BadThing
  have h_BadThing := clsAt_of aC_BadThing
  subst h_BadThing
  have g_NotSo := PySem.W.mg_of X G aC_NotSo
  have h_NotSo := clsAt_of aC_NotSo
  subst h_NotSo
  have g_BadPaper := PySem.W.mg_of X G aC_BadPaper
  have h_BadPaper := clsAt_of aC_BadPaper
  subst h_BadPaper
  have g_BadTiding := PySem.W.mg_of X G aC_BadTiding
  have h_BadTiding := clsAt_of aC_BadTiding
  subst h_BadTiding
  have g_BadMenu := PySem.W.mg_of X G aC_BadMenu
  have h_BadMenu := clsAt_of aC_BadMenu
  subst h_BadMenu
  have g_BadText := PySem.W.mg_of X G aC_BadText
  have h_BadText := clsAt_of aC_BadText
  subst h_BadText
  have g_BadDeed := PySem.W.mg_of X G aC_BadDeed
  have h_BadDeed := clsAt_of aC_BadDeed
  subst h_BadDeed
  have g_Promised := PySem.W.mg_of X G aC_Promised
  have h_Promised := clsAt_of aC_Promised
  subst h_Promised
  have g_Fixed := PySem.W.mg_of X G aC_Fixed
  have h_Fixed := clsAt_of aC_Fixed
  subst h_Fixed
  have g_TooMany := PySem.W.mg_of X G aC_TooMany
  have h_TooMany := clsAt_of aC_TooMany
  subst h_TooMany
  have g_NothingToUndo := PySem.W.mg_of X G aC_NothingToUndo
  have h_NothingToUndo := clsAt_of aC_NothingToUndo
  subst h_NothingToUndo
  have ec_BadPart : EC K "BadPart" (clsAt K "BadPart") (.ref C_DayError :: PySem.HandSPX.veTail) := ⟨rfl, ⟨_, _, _, _, _, _, _, _, _, _, _, _, _, _, _, xC_BadPart⟩, gaC_BadPart, ggC_BadPart, haC_BadPart, ve_bs _, ve_ob _⟩
  have T_BadPart : PySem.ErrBadPart.LowTxt K mg (clsAt K "BadPart") I_BadPart := { gC := g_BadPart, cls := ⟨_, _, _, _, _, _, _, _, _, _, _, _, _, _, _, xC_BadPart, by rfl⟩, sa := saC_BadPart, ga := gaC_BadPart, gg := ggC_BadPart, noN := nbC_BadPart, iC := iC_BadPart, tC := tiC_BadPart, kC := kC_BadPart, exC := ec_BadPart.ex, tyC := ec_BadPart.ty, hdC := ec_BadPart.hd, te := ec_BadPart.self, fn := ⟨_, _, _, _, _, _, _, _, _, _, _, _, _, _, lC_BadPart, cC_BadPart⟩ }
  have ec_BadNumber : EC K "BadNumber" (clsAt K "BadNumber") (.ref C_DayError :: PySem.HandSPX.veTail) := ⟨rfl, ⟨_, _, _, _, _, _, _, _, _, _, _, _, _, _, _, xC_BadNumber⟩, gaC_BadNumber, ggC_BadNumber, haC_BadNumber, ve_bs _, ve_ob _⟩
  have T_BadNumber : PySem.ErrBadNumber.LowTxt K mg (clsAt K "BadNumber") I_BadNumber := { gC := g_BadNumber, cls := ⟨_, _, _, _, _, _, _, _, _, _, _, _, _, _, _, xC_BadNumber, by rfl⟩, sa := saC_BadNumber, ga := gaC_BadNumber, gg := ggC_BadNumber, noN := nbC_BadNumber, iC := iC_BadNumber, tC := tiC_BadNumber, kC := kC_BadNumber, exC := ec_BadNumber.ex, tyC := ec_BadNumber.ty, hdC := ec_BadNumber.hd, te := ec_BadNumber.self, fn := ⟨_, _, _, _, _, _, _, _, _, _, _, _, _, _, lC_BadNumber, cC_BadNumber⟩ }
  have ec_BadIndex : EC K "BadIndex" (clsAt K "BadIndex") (.ref C_DayError :: PySem.HandSPX.veTail) := ⟨rfl, ⟨_, _, _, _, _, _, _, _, _, _, _, _, _, _, _, xC_BadIndex⟩, gaC_BadIndex, ggC_BadIndex, haC_BadIndex, ve_bs _, ve_ob _⟩
  have T_BadIndex : PySem.ErrBadIndex.LowTxt K mg (clsAt K "BadIndex") I_BadIndex := { gC := g_BadIndex, cls := ⟨_, _, _, _, _, _, _, _, _, _, _, _, _, _, _, xC_BadIndex, by rfl⟩, sa := saC_BadIndex, ga := gaC_BadIndex, gg := ggC_BadIndex, noN := nbC_BadIndex, iC := iC_BadIndex, tC := tiC_BadIndex, kC := kC_BadIndex, exC := ec_BadIndex.ex, tyC := ec_BadIndex.ty, hdC := ec_BadIndex.hd, te := ec_BadIndex.self, fn := ⟨_, _, _, _, _, _, _, _, _, _, _, _, _, _, lC_BadIndex, cC_BadIndex⟩ }
  have ec_BadName : EC K "BadName" (clsAt K "BadName") (.ref C_DayError :: PySem.HandSPX.veTail) := ⟨rfl, ⟨_, _, _, _, _, _, _, _, _, _, _, _, _, _, _, xC_BadName⟩, gaC_BadName, ggC_BadName, haC_BadName, ve_bs _, ve_ob _⟩
  have T_BadName : PySem.ErrBadName.LowTxt K mg (clsAt K "BadName") I_BadName := { gC := g_BadName, cls := ⟨_, _, _, _, _, _, _, _, _, _, _, _, _, _, _, xC_BadName, by rfl⟩, sa := saC_BadName, ga := gaC_BadName, gg := ggC_BadName, noN := nbC_BadName, iC := iC_BadName, tC := tiC_BadName, kC := kC_BadName, exC := ec_BadName.ex, tyC := ec_BadName.ty, hdC := ec_BadName.hd, te := ec_BadName.self, fn := ⟨_, _, _, _, _, _, _, _, _, _, _, _, _, _, lC_BadName, cC_BadName⟩ }
  have ec_BadKey : EC K "BadKey" (clsAt K "BadKey") (.ref C_DayError :: PySem.HandSPX.veTail) := ⟨rfl, ⟨_, _, _, _, _, _, _, _, _, _, _, _, _, _, _, xC_BadKey⟩, gaC_BadKey, ggC_BadKey, haC_BadKey, ve_bs _, ve_ob _⟩
  have T_BadKey : PySem.ErrBadKey.LowTxt K mg (clsAt K "BadKey") I_BadKey := { gC := g_BadKey, cls := ⟨_, _, _, _, _, _, _, _, _, _, _, _, _, _, _, xC_BadKey, by rfl⟩, sa := saC_BadKey, ga := gaC_BadKey, gg := ggC_BadKey, noN := nbC_BadKey, iC := iC_BadKey, tC := tiC_BadKey, kC := kC_BadKey, exC := ec_BadKey.ex, tyC := ec_BadKey.ty, hdC := ec_BadKey.hd, te := ec_BadKey.self, fn := ⟨_, _, _, _, _, _, _, _, _, _, _, _, _, _, lC_BadKey, cC_BadKey⟩ }
  have ec_BadErrand : EC K "BadErrand" (clsAt K "BadErrand") (.ref C_DayError :: PySem.HandSPX.veTail) := ⟨rfl, ⟨_, _, _, _, _, _, _, _, _, _, _, _, _, _, _, xC_BadErrand⟩, gaC_BadErrand, ggC_BadErrand, haC_BadErrand, ve_bs _, ve_ob _⟩
  have T_BadErrand : PySem.ErrBadErrand.LowTxt K mg (clsAt K "BadErrand") I_BadErrand := { gC := g_BadErrand, cls := ⟨_, _, _, _, _, _, _, _, _, _, _, _, _, _, _, xC_BadErrand, by rfl⟩, sa := saC_BadErrand, ga := gaC_BadErrand, gg := ggC_BadErrand, noN := nbC_BadErrand, iC := iC_BadErrand, tC := tiC_BadErrand, kC := kC_BadErrand, exC := ec_BadErrand.ex, tyC := ec_BadErrand.ty, hdC := ec_BadErrand.hd, te := ec_BadErrand.self, fn := ⟨_, _, _, _, _, _, _, _, _, _, _, _, _, _, lC_BadErrand, cC_BadErrand⟩ }
  have ec_BadOrder : EC K "BadOrder" (clsAt K "BadOrder") (.ref C_DayError :: PySem.HandSPX.veTail) := ⟨rfl, ⟨_, _, _, _, _, _, _, _, _, _, _, _, _, _, _, xC_BadOrder⟩, gaC_BadOrder, ggC_BadOrder, haC_BadOrder, ve_bs _, ve_ob _⟩
  have T_BadOrder : PySem.ErrBadOrder.LowTxt K mg (clsAt K "BadOrder") I_BadOrder := { gC := g_BadOrder, cls := ⟨_, _, _, _, _, _, _, _, _, _, _, _, _, _, _, xC_BadOrder, by rfl⟩, sa := saC_BadOrder, ga := gaC_BadOrder, gg := ggC_BadOrder, noN := nbC_BadOrder, iC := iC_BadOrder, tC := tiC_BadOrder, kC := kC_BadOrder, exC := ec_BadOrder.ex, tyC := ec_BadOrder.ty, hdC := ec_BadOrder.hd, te := ec_BadOrder.self, fn := ⟨_, _, _, _, _, _, _, _, _, _, _, _, _, _, lC_BadOrder, cC_BadOrder⟩ }
  have ec_NoWay : EC K "NoWay" (clsAt K "NoWay") (.ref C_DayError :: PySem.HandSPX.veTail) := ⟨rfl, ⟨_, _, _, _, _, _, _, _, _, _, _, _, _, _, _, xC_NoWay⟩, gaC_NoWay, ggC_NoWay, haC_NoWay, ve_bs _, ve_ob _⟩
  have T_NoWay : PySem.ErrNoWay.LowTxt K mg (clsAt K "NoWay") I_NoWay := { gC := g_NoWay, cls := ⟨_, _, _, _, _, _, _, _, _, _, _, _, _, _, _, xC_NoWay, by rfl⟩, sa := saC_NoWay, ga := gaC_NoWay, gg := ggC_NoWay, noN := nbC_NoWay, iC := iC_NoWay, tC := tiC_NoWay, kC := kC_NoWay, exC := ec_NoWay.ex, tyC := ec_NoWay.ty, hdC := ec_NoWay.hd, te := ec_NoWay.self, fn := ⟨_, _, _, _, _, _, _, _, _, _, _, _, _, _, lC_NoWay, cC_NoWay⟩ }
  have ec_Ring : EC K "Ring" (clsAt K "Ring") (.ref C_DayError :: PySem.HandSPX.veTail) := ⟨rfl, ⟨_, _, _, _, _, _, _, _, _, _, _, _, _, _, _, xC_Ring⟩, gaC_Ring, ggC_Ring, haC_Ring, ve_bs _, ve_ob _⟩
  have T_Ring : PySem.ErrRing.LowTxt K mg (clsAt K "Ring") I_Ring := { gC := g_Ring, cls := ⟨_, _, _, _, _, _, _, _, _, _, _, _, _, _, _, xC_Ring, by rfl⟩, sa := saC_Ring, ga := gaC_Ring, gg := ggC_Ring, noN := nbC_Ring, iC := iC_Ring, tC := tiC_Ring, kC := kC_Ring, exC := ec_Ring.ex, tyC := ec_Ring.ty, hdC := ec_Ring.hd, te := ec_Ring.self, fn := ⟨_, _, _, _, _, _, _, _, _, _, _, _, _, _, lC_Ring, cC_Ring⟩ }
  have ec_BadThing : EC K "BadThing" (clsAt K "BadThing") (.ref C_DayError :: PySem.HandSPX.veTail) := ⟨rfl, ⟨_, _, _, _, _, _, _, _, _, _, _, _, _, _, _, xC_BadThing⟩, gaC_BadThing, ggC_BadThing, haC_BadThing, ve_bs _, ve_ob _⟩
  have T_BadThing : PySem.ErrBadThing.LowTxt K mg (clsAt K "BadThing") I_BadThing := { gC := g_BadThing, cls := ⟨_, _, _, _, _, _, _, _, _, _, _, _, _, _, _, xC_BadThing, by rfl⟩, sa := saC_BadThing, ga := gaC_BadThing, gg := ggC_BadThing, noN := nbC_BadThing, iC := iC_BadThing, tC := tiC_BadThing, kC := kC_BadThing, exC := ec_BadThing.ex, tyC := ec_BadThing.ty, hdC := ec_BadThing.hd, te := ec_BadThing.self, fn := ⟨_, _, _, _, _, _, _, _, _, _, _, _, _, _, lC_BadThing, cC_BadThing⟩ }
  have ec_NotSo : EC K "NotSo" (clsAt K "NotSo") (.ref C_DayError :: PySem.HandSPX.veTail) := ⟨rfl, ⟨_, _, _, _, _, _, _, _, _, _, _, _, _, _, _, xC_NotSo⟩, gaC_NotSo, ggC_NotSo, haC_NotSo, ve_bs _, ve_ob _⟩
  have T_NotSo : PySem.ErrNotSo.LowTxt K mg (clsAt K "NotSo") I_NotSo := { gC := g_NotSo, cls := ⟨_, _, _, _, _, _, _, _, _, _, _, _, _, _, _, xC_NotSo, by rfl⟩, sa := saC_NotSo, ga := gaC_NotSo, gg := ggC_NotSo, noN := nbC_NotSo, iC := iC_NotSo, tC := tiC_NotSo, kC := kC_NotSo, exC := ec_NotSo.ex, tyC := ec_NotSo.ty, hdC := ec_NotSo.hd, te := ec_NotSo.self, fn := ⟨_, _, _, _, _, _, _, _, _, _, _, _, _, _, lC_NotSo, cC_NotSo⟩ }
  have ec_BadPaper : EC K "BadPaper" (clsAt K "BadPaper") (.ref C_DayError :: PySem.HandSPX.veTail) := ⟨rfl, ⟨_, _, _, _, _, _, _, _, _, _, _, _, _, _, _, xC_BadPaper⟩, gaC_BadPaper, ggC_BadPaper, haC_BadPaper, ve_bs _, ve_ob _⟩
  have T_BadPaper : PySem.ErrBadPaper.LowTxt K mg (clsAt K "BadPaper") I_BadPaper := { gC := g_BadPaper, cls := ⟨_, _, _, _, _, _, _, _, _, _, _, _, _, _, _, xC_BadPaper, by rfl⟩, sa := saC_BadPaper, ga := gaC_BadPaper, gg := ggC_BadPaper, noN := nbC_BadPaper, iC := iC_BadPaper, tC := tiC_BadPaper, kC := kC_BadPaper, exC := ec_BadPaper.ex, tyC := ec_BadPaper.ty, hdC := ec_BadPaper.hd, te := ec_BadPaper.self, fn := ⟨_, _, _, _, _, _, _, _, _, _, _, _, _, _, lC_BadPaper, cC_BadPaper⟩ }
  have ec_BadTiding : EC K "BadTiding" (clsAt K "BadTiding") (.ref C_DayError :: PySem.HandSPX.veTail) := ⟨rfl, ⟨_, _, _, _, _, _, _, _, _, _, _, _, _, _, _, xC_BadTiding⟩, gaC_BadTiding, ggC_BadTiding, haC_BadTiding, ve_bs _, ve_ob _⟩
  have T_BadTiding : PySem.ErrBadTiding.LowTxt K mg (clsAt K "BadTiding") I_BadTiding := { gC := g_BadTiding, cls := ⟨_, _, _, _, _, _, _, _, _, _, _, _, _, _, _, xC_BadTiding, by rfl⟩, sa := saC_BadTiding, ga := gaC_BadTiding, gg := ggC_BadTiding, noN := nbC_BadTiding, iC := iC_BadTiding, tC := tiC_BadTiding, kC := kC_BadTiding, exC := ec_BadTiding.ex, tyC := ec_BadTiding.ty, hdC := ec_BadTiding.hd, te := ec_BadTiding.self, fn := ⟨_, _, _, _, _, _, _, _, _, _, _, _, _, _, lC_BadTiding, cC_BadTiding⟩ }
  have ec_BadMenu : EC K "BadMenu" (clsAt K "BadMenu") (.ref C_DayError :: PySem.HandSPX.veTail) := ⟨rfl, ⟨_, _, _, _, _, _, _, _, _, _, _, _, _, _, _, xC_BadMenu⟩, gaC_BadMenu, ggC_BadMenu, haC_BadMenu, ve_bs _, ve_ob _⟩
  have T_BadMenu : PySem.ErrBadMenu.LowTxt K mg (clsAt K "BadMenu") I_BadMenu := { gC := g_BadMenu, cls := ⟨_, _, _, _, _, _, _, _, _, _, _, _, _, _, _, xC_BadMenu, by rfl⟩, sa := saC_BadMenu, ga := gaC_BadMenu, gg := ggC_BadMenu, noN := nbC_BadMenu, iC := iC_BadMenu, tC := tiC_BadMenu, kC := kC_BadMenu, exC := ec_BadMenu.ex, tyC := ec_BadMenu.ty, hdC := ec_BadMenu.hd, te := ec_BadMenu.self, fn := ⟨_, _, _, _, _, _, _, _, _, _, _, _, _, _, lC_BadMenu, cC_BadMenu⟩ }
  have ec_BadText : EC K "BadText" (clsAt K "BadText") (.ref C_DayError :: PySem.HandSPX.veTail) := ⟨rfl, ⟨_, _, _, _, _, _, _, _, _, _, _, _, _, _, _, xC_BadText⟩, gaC_BadText, ggC_BadText, haC_BadText, ve_bs _, ve_ob _⟩
  have T_BadText : PySem.ErrBadText.LowTxt K mg (clsAt K "BadText") I_BadText := { gC := g_BadText, cls := ⟨_, _, _, _, _, _, _, _, _, _, _, _, _, _, _, xC_BadText, by rfl⟩, sa := saC_BadText, ga := gaC_BadText, gg := ggC_BadText, noN := nbC_BadText, iC := iC_BadText, tC := tiC_BadText, kC := kC_BadText, exC := ec_BadText.ex, tyC := ec_BadText.ty, hdC := ec_BadText.hd, te := ec_BadText.self, fn := ⟨_, _, _, _, _, _, _, _, _, _, _, _, _, _, lC_BadText, cC_BadText⟩ }
  have ec_BadDeed : EC K "BadDeed" (clsAt K "BadDeed") (.ref C_DayError :: PySem.HandSPX.veTail) := ⟨rfl, ⟨_, _, _, _, _, _, _, _, _, _, _, _, _, _, _, xC_BadDeed⟩, gaC_BadDeed, ggC_BadDeed, haC_BadDeed, ve_bs _, ve_ob _⟩
  have T_BadDeed : PySem.ErrBadDeed.LowTxt K mg (clsAt K "BadDeed") I_BadDeed := { gC := g_BadDeed, cls := ⟨_, _, _, _, _, _, _, _, _, _, _, _, _, _, _, xC_BadDeed, by rfl⟩, sa := saC_BadDeed, ga := gaC_BadDeed, gg := ggC_BadDeed, noN := nbC_BadDeed, iC := iC_BadDeed, tC := tiC_BadDeed, kC := kC_BadDeed, exC := ec_BadDeed.ex, tyC := ec_BadDeed.ty, hdC := ec_BadDeed.hd, te := ec_BadDeed.self, fn := ⟨_, _, _, _, _, _, _, _, _, _, _, _, _, _, lC_BadDeed, cC_BadDeed⟩ }
  have ec_Promised : EC K "Promised" (clsAt K "Promised") (.ref C_DayError :: PySem.HandSPX.veTail) := ⟨rfl, ⟨_, _, _, _, _, _, _, _, _, _, _, _, _, _, _, xC_Promised⟩, gaC_Promised, ggC_Promised, haC_Promised, ve_bs _, ve_ob _⟩
  have T_Promised : PySem.ErrPromised.LowTxt K mg (clsAt K "Promised") I_Promised := { gC := g_Promised, cls := ⟨_, _, _, _, _, _, _, _, _, _, _, _, _, _, _, xC_Promised, by rfl⟩, sa := saC_Promised, ga := gaC_Promised, gg := ggC_Promised, noN := nbC_Promised, iC := iC_Promised, tC := tiC_Promised, kC := kC_Promised, exC := ec_Promised.ex, tyC := ec_Promised.ty, hdC := ec_Promised.hd, te := ec_Promised.self, fn := ⟨_, _, _, _, _, _, _, _, _, _, _, _, _, _, lC_Promised, cC_Promised⟩ }
  have ec_Fixed : EC K "Fixed" (clsAt K "Fixed") (.ref C_DayError :: PySem.HandSPX.veTail) := ⟨rfl, ⟨_, _, _, _, _, _, _, _, _, _, _, _, _, _, _, xC_Fixed⟩, gaC_Fixed, ggC_Fixed, haC_Fixed, ve_bs _, ve_ob _⟩
  have T_Fixed : PySem.ErrFixed.LowTxt K mg (clsAt K "Fixed") I_Fixed := { gC := g_Fixed, cls := ⟨_, _, _, _, _, _, _, _, _, _, _, _, _, _, _, xC_Fixed, by rfl⟩, sa := saC_Fixed, ga := gaC_Fixed, gg := ggC_Fixed, noN := nbC_Fixed, iC := iC_Fixed, tC := tiC_Fixed, kC := kC_Fixed, exC := ec_Fixed.ex, tyC := ec_Fixed.ty, hdC := ec_Fixed.hd, te := ec_Fixed.self, fn := ⟨_, _, _, _, _, _, _, _, _, _, _, _, _, _, lC_Fixed, cC_Fixed⟩ }
  have ec_TooMany : EC K "TooMany" (clsAt K "TooMany") PySem.HandSPX.oeTail := ⟨rfl, ⟨_, _, _, _, _, _, _, _, _, _, _, _, _, _, _, xC_TooMany⟩, gaC_TooMany, ggC_TooMany, haC_TooMany, oe_bs, oe_ob⟩
  have T_TooMany : PySem.ErrTooMany.LowTxt K mg (clsAt K "TooMany") I_TooMany := { gC := g_TooMany, cls := ⟨_, _, _, _, _, _, _, _, _, _, _, _, _, _, _, xC_TooMany, by rfl⟩, sa := saC_TooMany, ga := gaC_TooMany, gg := ggC_TooMany, noN := nbC_TooMany, iC := iC_TooMany, tC := tiC_TooMany, kC := kC_TooMany, exC := ec_TooMany.ex, tyC := ec_TooMany.ty, hdC := ec_TooMany.hd, te := ec_TooMany.self, fn := ⟨_, _, _, _, _, _, _, _, _, _, _, _, _, _, lC_TooMany, cC_TooMany⟩ }
  have ec_NothingToUndo : EC K "NothingToUndo" (clsAt K "NothingToUndo") PySem.HandSPX.reTail := ⟨rfl, ⟨_, _, _, _, _, _, _, _, _, _, _, _, _, _, _, xC_NothingToUndo⟩, gaC_NothingToUndo, ggC_NothingToUndo, haC_NothingToUndo, re_bs, re_ob⟩
  have T_NothingToUndo : PySem.ErrNothingToUndo.LowTxt K mg (clsAt K "NothingToUndo") I_NothingToUndo := { gC := g_NothingToUndo, cls := ⟨_, _, _, _, _, _, _, _, _, _, _, _, _, _, _, xC_NothingToUndo, by rfl⟩, sa := saC_NothingToUndo, ga := gaC_NothingToUndo, gg := ggC_NothingToUndo, noN := nbC_NothingToUndo, iC := iC_NothingToUndo, tC := tiC_NothingToUndo, kC := kC_NothingToUndo, exC := ec_NothingToUndo.ex, tyC := ec_NothingToUndo.ty, hdC := ec_NothingToUndo.hd, te := ec_NothingToUndo.self, fn := ⟨_, _, _, _, _, _, _, _, _, _, _, _, _, _, lC_NothingToUndo, cC_NothingToUndo⟩ }
  have AE : AllE K (psE C_DayError) [clsAt K "BadPart", clsAt K "BadNumber", clsAt K "BadIndex", clsAt K "BadName", clsAt K "BadKey", clsAt K "BadErrand", clsAt K "BadOrder", clsAt K "NoWay", clsAt K "Ring", clsAt K "BadThing", clsAt K "NotSo", clsAt K "BadPaper", clsAt K "BadTiding", clsAt K "BadMenu", clsAt K "BadText", clsAt K "BadDeed", clsAt K "Promised", clsAt K "Fixed", clsAt K "TooMany", clsAt K "NothingToUndo"] := ⟨ec_BadPart, ec_BadNumber, ec_BadIndex, ec_BadName, ec_BadKey, ec_BadErrand, ec_BadOrder, ec_NoWay, ec_Ring, ec_BadThing, ec_NotSo, ec_BadPaper, ec_BadTiding, ec_BadMenu, ec_BadText, ec_BadDeed, ec_Promised, ec_Fixed, ec_TooMany, ec_NothingToUndo, trivial⟩
  obtain ⟨nin, nd⟩ := List.nodup_cons.mp D_nd
  have ne_BadPart : clsAt K "BadPart" ≠ C_DayError := fun z => nin (z ▸ List.mem_of_getElem? (i := 0) rfl)
  have ne_BadNumber : clsAt K "BadNumber" ≠ C_DayError := fun z => nin (z ▸ List.mem_of_getElem? (i := 1) rfl)
  have ne_BadIndex : clsAt K "BadIndex" ≠ C_DayError := fun z => nin (z ▸ List.mem_of_getElem? (i := 2) rfl)
  have ne_BadName : clsAt K "BadName" ≠ C_DayError := fun z => nin (z ▸ List.mem_of_getElem? (i := 3) rfl)
  have ne_BadKey : clsAt K "BadKey" ≠ C_DayError := fun z => nin (z ▸ List.mem_of_getElem? (i := 4) rfl)
  have ne_BadErrand : clsAt K "BadErrand" ≠ C_DayError := fun z => nin (z ▸ List.mem_of_getElem? (i := 5) rfl)
  have ne_BadOrder : clsAt K "BadOrder" ≠ C_DayError := fun z => nin (z ▸ List.mem_of_getElem? (i := 6) rfl)
  have ne_NoWay : clsAt K "NoWay" ≠ C_DayError := fun z => nin (z ▸ List.mem_of_getElem? (i := 7) rfl)
  have ne_Ring : clsAt K "Ring" ≠ C_DayError := fun z => nin (z ▸ List.mem_of_getElem? (i := 8) rfl)
  have ne_BadThing : clsAt K "BadThing" ≠ C_DayError := fun z => nin (z ▸ List.mem_of_getElem? (i := 9) rfl)
  have ne_NotSo : clsAt K "NotSo" ≠ C_DayError := fun z => nin (z ▸ List.mem_of_getElem? (i := 10) rfl)
  have ne_BadPaper : clsAt K "BadPaper" ≠ C_DayError := fun z => nin (z ▸ List.mem_of_getElem? (i := 11) rfl)
  have ne_BadTiding : clsAt K "BadTiding" ≠ C_DayError := fun z => nin (z ▸ List.mem_of_getElem? (i := 12) rfl)
  have ne_BadMenu : clsAt K "BadMenu" ≠ C_DayError := fun z => nin (z ▸ List.mem_of_getElem? (i := 13) rfl)
  have ne_BadText : clsAt K "BadText" ≠ C_DayError := fun z => nin (z ▸ List.mem_of_getElem? (i := 14) rfl)
  have ne_BadDeed : clsAt K "BadDeed" ≠ C_DayError := fun z => nin (z ▸ List.mem_of_getElem? (i := 15) rfl)
  have ne_Promised : clsAt K "Promised" ≠ C_DayError := fun z => nin (z ▸ List.mem_of_getElem? (i := 16) rfl)
  have ne_Fixed : clsAt K "Fixed" ≠ C_DayError := fun z => nin (z ▸ List.mem_of_getElem? (i := 17) rfl)
  have ne_TooMany : clsAt K "TooMany" ≠ C_DayError := fun z => nin (z ▸ List.mem_of_getElem? (i := 18) rfl)
  have ne_NothingToUndo : clsAt K "NothingToUndo" ≠ C_DayError := fun z => nin (z ▸ List.mem_of_getElem? (i := 19) rfl)
  have KI_BadPart : EisF K tab_BadPart (.ref (clsAt K "BadPart")) := by
    rw [tabe_BadPart C_DayError]
    exact eis_own AE oc_hn oc_ht nd (t := 0) rfl (psE_no (Ne.symm ne_BadPart))
  have KI_BadNumber : EisF K tab_BadNumber (.ref (clsAt K "BadNumber")) := by
    rw [tabe_BadNumber C_DayError]
    exact eis_own AE oc_hn oc_ht nd (t := 1) rfl (psE_no (Ne.symm ne_BadNumber))
  have KI_BadIndex : EisF K tab_BadIndex (.ref (clsAt K "BadIndex")) := by
    rw [tabe_BadIndex C_DayError]
    exact eis_own AE oc_hn oc_ht nd (t := 2) rfl (psE_no (Ne.symm ne_BadIndex))
  have KI_BadName : EisF K tab_BadName (.ref (clsAt K "BadName")) := by
    rw [tabe_BadName C_DayError]
    exact eis_own AE oc_hn oc_ht nd (t := 3) rfl (psE_no (Ne.symm ne_BadName))
  have KI_BadKey : EisF K tab_BadKey (.ref (clsAt K "BadKey")) := by
    rw [tabe_BadKey C_DayError]
    exact eis_own AE oc_hn oc_ht nd (t := 4) rfl (psE_no (Ne.symm ne_BadKey))
  have KI_BadErrand : EisF K tab_BadErrand (.ref (clsAt K "BadErrand")) := by
    rw [tabe_BadErrand C_DayError]
    exact eis_own AE oc_hn oc_ht nd (t := 5) rfl (psE_no (Ne.symm ne_BadErrand))
  have KI_BadOrder : EisF K tab_BadOrder (.ref (clsAt K "BadOrder")) := by
    rw [tabe_BadOrder C_DayError]
    exact eis_own AE oc_hn oc_ht nd (t := 6) rfl (psE_no (Ne.symm ne_BadOrder))
  have KI_NoWay : EisF K tab_NoWay (.ref (clsAt K "NoWay")) := by
    rw [tabe_NoWay C_DayError]
    exact eis_own AE oc_hn oc_ht nd (t := 7) rfl (psE_no (Ne.symm ne_NoWay))
  have KI_Ring : EisF K tab_Ring (.ref (clsAt K "Ring")) := by
    rw [tabe_Ring C_DayError]
    exact eis_own AE oc_hn oc_ht nd (t := 8) rfl (psE_no (Ne.symm ne_Ring))
  have KI_BadThing : EisF K tab_BadThing (.ref (clsAt K "BadThing")) := by
    rw [tabe_BadThing C_DayError]
    exact eis_own AE oc_hn oc_ht nd (t := 9) rfl (psE_no (Ne.symm ne_BadThing))
  have KI_NotSo : EisF K tab_NotSo (.ref (clsAt K "NotSo")) := by
    rw [tabe_NotSo C_DayError]
    exact eis_own AE oc_hn oc_ht nd (t := 10) rfl (psE_no (Ne.symm ne_NotSo))
  have KI_BadPaper : EisF K tab_BadPaper (.ref (clsAt K "BadPaper")) := by
    rw [tabe_BadPaper C_DayError]
    exact eis_own AE oc_hn oc_ht nd (t := 11) rfl (psE_no (Ne.symm ne_BadPaper))
  have KI_BadTiding : EisF K tab_BadTiding (.ref (clsAt K "BadTiding")) := by
    rw [tabe_BadTiding C_DayError]
    exact eis_own AE oc_hn oc_ht nd (t := 12) rfl (psE_no (Ne.symm ne_BadTiding))
  have KI_BadMenu : EisF K tab_BadMenu (.ref (clsAt K "BadMenu")) := by
    rw [tabe_BadMenu C_DayError]
    exact eis_own AE oc_hn oc_ht nd (t := 13) rfl (psE_no (Ne.symm ne_BadMenu))
  have KI_BadText : EisF K tab_BadText (.ref (clsAt K "BadText")) := by
    rw [tabe_BadText C_DayError]
    exact eis_own AE oc_hn oc_ht nd (t := 14) rfl (psE_no (Ne.symm ne_BadText))
  have KI_BadDeed : EisF K tab_BadDeed (.ref (clsAt K "BadDeed")) := by
    rw [tabe_BadDeed C_DayError]
    exact eis_own AE oc_hn oc_ht nd (t := 15) rfl (psE_no (Ne.symm ne_BadDeed))
  have KI_Promised : EisF K tab_Promised (.ref (clsAt K "Promised")) := by
    rw [tabe_Promised C_DayError]
    exact eis_own AE oc_hn oc_ht nd (t := 16) rfl (psE_no (Ne.symm ne_Promised))
  have KI_Fixed : EisF K tab_Fixed (.ref (clsAt K "Fixed")) := by
    rw [tabe_Fixed C_DayError]
    exact eis_own AE oc_hn oc_ht nd (t := 17) rfl (psE_no (Ne.symm ne_Fixed))
  have KI_DayError : EisF K tab_DayError (.ref C_DayError) := by
    rw [tabe_DayError C_DayError]
    exact eis_sup AE oc_hn oc_ht fun n a bm ha E => kit_ccE (fun z => nin (z ▸ ha)) icC_DayError tyC_DayError (E.sub_ne fun z => nin (z ▸ ha))
  have KI_ValueError : EisF K tab_ValueError (.type "ValueError") := by
    rw [tabe_ValueError C_DayError]
    exact eis_sup AE oc_hn oc_ht fun n a bm ha E => kit_ctE rfl (E.sub_ty "ValueError")
  have KF_part : ∀ C ∈ cf_part, ErrF K "part" C := fun C hC => by
    unfold cf_part at hC
    simp only [List.mem_cons, List.not_mem_nil, or_false] at hC
    rcases hC with rfl
    · exact ec_BadPart.errf nbC_BadPart
  have KF_number : ∀ C ∈ cf_number, ErrF K "number" C := fun C hC => by
    unfold cf_number at hC
    simp only [List.mem_cons, List.not_mem_nil, or_false] at hC
    rcases hC with rfl
    · exact ec_BadNumber.errf nbC_BadNumber
  have KF_index : ∀ C ∈ cf_index, ErrF K "index" C := fun C hC => by
    unfold cf_index at hC
    simp only [List.mem_cons, List.not_mem_nil, or_false] at hC
    rcases hC with rfl | rfl | rfl | rfl | rfl
    · exact ec_BadIndex.errf nbC_BadIndex
    · exact ec_BadErrand.errf nbC_BadErrand
    · exact ec_BadTiding.errf nbC_BadTiding
    · exact ec_BadMenu.errf nbC_BadMenu
    · exact ec_BadDeed.errf nbC_BadDeed
  have KF_name : ∀ C ∈ cf_name, ErrF K "name" C := fun C hC => by
    unfold cf_name at hC
    simp only [List.mem_cons, List.not_mem_nil, or_false] at hC
    rcases hC with rfl | rfl | rfl
    · exact ec_BadName.errf nbC_BadName
    · exact ec_BadOrder.errf nbC_BadOrder
    · exact ec_NothingToUndo.errf nbC_NothingToUndo
  have KF_key : ∀ C ∈ cf_key, ErrF K "key" C := fun C hC => by
    unfold cf_key at hC
    simp only [List.mem_cons, List.not_mem_nil, or_false] at hC
    rcases hC with rfl | rfl | rfl
    · exact ec_BadKey.errf nbC_BadKey
    · exact ec_Promised.errf nbC_Promised
    · exact ec_Fixed.errf nbC_Fixed
  have KF_pair : ∀ C ∈ cf_pair, ErrF K "pair" C := fun C hC => by
    unfold cf_pair at hC
    simp only [List.mem_cons, List.not_mem_nil, or_false] at hC
    rcases hC with rfl
    · exact ec_NoWay.errf nbC_NoWay
  have KF_ring : ∀ C ∈ cf_ring, ErrF K "ring" C := fun C hC => by
    unfold cf_ring at hC
    simp only [List.mem_cons, List.not_mem_nil, or_false] at hC
    rcases hC with rfl
    · exact ec_Ring.errf nbC_Ring
  have KF_thing : ∀ C ∈ cf_thing, ErrF K "thing" C := fun C hC => by
    unfold cf_thing at hC
    simp only [List.mem_cons, List.not_mem_nil, or_false] at hC
    rcases hC with rfl
    · exact ec_BadThing.errf nbC_BadThing
  have KF_word : ∀ C ∈ cf_word, ErrF K "word" C := fun C hC => by
    unfold cf_word at hC
    simp only [List.mem_cons, List.not_mem_nil, or_false] at hC
    rcases hC with rfl
    · exact ec_NotSo.errf nbC_NotSo
  have KF_reason : ∀ C ∈ cf_reason, ErrF K "reason" C := fun C hC => by
    unfold cf_reason at hC
    simp only [List.mem_cons, List.not_mem_nil, or_false] at hC
    rcases hC with rfl
    · exact ec_BadPaper.errf nbC_BadPaper
  have KF_line : ∀ C ∈ cf_line, ErrF K "line" C := fun C hC => by
    unfold cf_line at hC
    simp only [List.mem_cons, List.not_mem_nil, or_false] at hC
    rcases hC with rfl
    · exact ec_BadText.errf nbC_BadText
  have KF_limit : ∀ C ∈ cf_limit, ErrF K "limit" C := fun C hC => by
    unfold cf_limit at hC
    simp only [List.mem_cons, List.not_mem_nil, or_false] at hC
    rcases hC with rfl
    · exact ec_TooMany.errf nbC_TooMany
  have KT : ∀ C ∈ tab_all, hits K (.ref (clsAt K C)) [.ref C_DayError, .ref (clsAt K "TooMany"), .ref (clsAt K "NothingToUndo")] := fun C hC => by
    unfold tab_all at hC
    simp only [List.mem_cons, List.not_mem_nil, or_false] at hC
    rcases hC with rfl | rfl | rfl | rfl | rfl | rfl | rfl | rfl | rfl | rfl | rfl | rfl | rfl | rfl | rfl | rfl | rfl | rfl | rfl | rfl
    · exact hit_first ec_BadPart eC_DayError icC_DayError tyC_DayError ne_BadPart (ve_day _)
    · exact hit_first ec_BadNumber eC_DayError icC_DayError tyC_DayError ne_BadNumber (ve_day _)
    · exact hit_first ec_BadIndex eC_DayError icC_DayError tyC_DayError ne_BadIndex (ve_day _)
    · exact hit_first ec_BadName eC_DayError icC_DayError tyC_DayError ne_BadName (ve_day _)
    · exact hit_first ec_BadKey eC_DayError icC_DayError tyC_DayError ne_BadKey (ve_day _)
    · exact hit_first ec_BadErrand eC_DayError icC_DayError tyC_DayError ne_BadErrand (ve_day _)
    · exact hit_first ec_BadOrder eC_DayError icC_DayError tyC_DayError ne_BadOrder (ve_day _)
    · exact hit_first ec_NoWay eC_DayError icC_DayError tyC_DayError ne_NoWay (ve_day _)
    · exact hit_first ec_Ring eC_DayError icC_DayError tyC_DayError ne_Ring (ve_day _)
    · exact hit_first ec_BadThing eC_DayError icC_DayError tyC_DayError ne_BadThing (ve_day _)
    · exact hit_first ec_NotSo eC_DayError icC_DayError tyC_DayError ne_NotSo (ve_day _)
    · exact hit_first ec_BadPaper eC_DayError icC_DayError tyC_DayError ne_BadPaper (ve_day _)
    · exact hit_first ec_BadTiding eC_DayError icC_DayError tyC_DayError ne_BadTiding (ve_day _)
    · exact hit_first ec_BadMenu eC_DayError icC_DayError tyC_DayError ne_BadMenu (ve_day _)
    · exact hit_first ec_BadText eC_DayError icC_DayError tyC_DayError ne_BadText (ve_day _)
    · exact hit_first ec_BadDeed eC_DayError icC_DayError tyC_DayError ne_BadDeed (ve_day _)
    · exact hit_first ec_Promised eC_DayError icC_DayError tyC_DayError ne_Promised (ve_day _)
    · exact hit_first ec_Fixed eC_DayError icC_DayError tyC_DayError ne_Fixed (ve_day _)
    · exact hit_next ec_TooMany eC_DayError icC_DayError tyC_DayError ne_TooMany (oe_ref _) (hit_self ec_TooMany)
    · exact hit_next ec_NothingToUndo eC_DayError icC_DayError tyC_DayError ne_NothingToUndo (re_ref _) (hit_next ec_NothingToUndo ec_TooMany.ex ec_TooMany.ic ec_TooMany.ty (fun z => absurd (nodup_ixA nd (i := 19) (j := 18) (x := clsAt K "TooMany") (by rw [← z]; rfl) rfl) (by decide)) (re_ref _) (hit_self ec_NothingToUndo))
  have F0 := fun_mk (st := (top 23)) l0 c0 k0
  have b0 := F0.binds (ps := ["_law_script"]) fun _ _ _ _ _ _ us hl => match us, hl with | [_], _ => rfl
  have F1 := fun_mk (st := (top 24)) l1 c1 k1
  have b1 := F1.binds (ps := ["_law_script", "_law_state", "_law_many"]) fun _ _ _ _ _ _ us hl => match us, hl with | [_, _, _], _ => rfl
  have F2 := fun_mk (st := (top 25)) l2 c2 k2
  have b2 := F2.binds (ps := ["_law_kind", "_law_value_here"]) fun _ _ _ _ _ _ us hl => match us, hl with | [_, _], _ => rfl
  have F3 := fun_mk (st := (top 26)) l3 c3 k3
  have b3 := F3.binds (ps := ["_law_kind", "_law_value_here"]) fun _ _ _ _ _ _ us hl => match us, hl with | [_, _], _ => rfl
  have F4 := fun_mk (st := (top 27)) l4 c4 k4
  have b4 := F4.binds (ps := ["_law_kind", "_law_value_here"]) fun _ _ _ _ _ _ us hl => match us, hl with | [_, _], _ => rfl
  have F5 := fun_mk (st := (top 28)) l5 c5 k5
  have b5 := F5.binds (ps := ["_law_kind", "_law_value_here"]) fun _ _ _ _ _ _ us hl => match us, hl with | [_, _], _ => rfl
  have F6 := fun_mk (st := (top 29)) l6 c6 k6
  have b6 := F6.binds (ps := ["_law_kind", "_law_e"]) fun _ _ _ _ _ _ us hl => match us, hl with | [_, _], _ => rfl
  have F7 := fun_mk (st := (top 30)) l7 c7 k7
  have b7 := F7.binds (ps := ["_law_e"]) fun _ _ _ _ _ _ us hl => match us, hl with | [_], _ => rfl
  have F8 := fun_mk (st := (top 31)) l8 c8 k8
  have b8 := F8.binds (ps := ["_law_kind", "_law_value_here"]) fun _ _ _ _ _ _ us hl => match us, hl with | [_, _], _ => rfl
  have F9 := fun_mk (st := (top 32)) l9 c9 k9
  have b9 := F9.binds (ps := ["_law_script", "_law_state"]) fun _ _ _ _ _ _ us hl => match us, hl with | [_, _], _ => rfl
  have F10 := fun_mk (st := (top 33)) l10 c10 k10
  have b10 := F10.binds (ps := ["_law_script"]) fun _ _ _ _ _ _ us hl => match us, hl with | [_], _ => rfl
  have z_len := PySem.W.mg_none_of X G Z_len
  have z_abs := PySem.W.mg_none_of X G Z_abs
  have z_int := PySem.W.mg_none_of X G Z_int
  have z_isinstance := PySem.W.mg_none_of X G Z_isinstance
  have z_range := PySem.W.mg_none_of X G Z_range
  have z_ValueError := PySem.W.mg_none_of X G Z_ValueError
  have hC : ∀ C, C ∈ ([] : List Str) → IsC K C := fun C hC => nomatch hC
  refine ⟨PySem.W.fnOf "law" "law" (defArgs (top 33)) (defBody (top 33)) (defScope (top 33)) .none kV10 dc10 pm10 an10 cd10 ct10, [], spLaw K, ?_, ?_, ?_, fun s v => .of_eq rfl, ?_, fun base _ _ TB => ?_⟩
  · exact fun p hp => nomatch hp
  · exact fun p hp => nomatch hp
  · exact fun p hp => nomatch hp
  · intro H a ns hl hT hS
    exact ⟨a, ns, (fun P q m => nomatch m), rfl, hS, hl, fun _ => rfl⟩
  have FU__law_start : @FrF I1 ⟨True⟩ l.prog w K mg base 1 "_law_start" f__law_start := by letI I2 : GdW := ⟨True⟩; exact frF_mk (by decide) (PySem.W.mg_of X G a0) k0 (ok__law_start (P := l.prog) (w := w) (mg := mg) (base := base) F0 (z_len := z_len) (z_abs := z_abs) (z_int := z_int)) b0
  have FU__law_draw : @FnF I1 ⟨True⟩ l.prog w K mg base 1 "_law_draw" f__law_draw := by letI I2 : GdW := ⟨True⟩; exact fnF_mk (by decide) (PySem.W.mg_of X G a1) k1 (ok__law_draw (P := l.prog) (w := w) (mg := mg) (base := base) F1 (z_int := z_int) (z_len := z_len)) b1
  have FU__law_throw_other : @FnF I1 ⟨True⟩ l.prog w K mg base 1 "_law_throw_other" f__law_throw_other := by letI I2 : GdW := ⟨True⟩; exact fnF_mk (by decide) (PySem.W.mg_of X G a2) k2 (ok__law_throw_other (P := l.prog) (w := w) (mg := mg) (base := base) F2 (T_BadThing := T_BadThing) (T_NotSo := T_NotSo) (T_BadPaper := T_BadPaper) (T_BadTiding := T_BadTiding) (T_BadMenu := T_BadMenu) (T_BadText := T_BadText) (T_BadDeed := T_BadDeed) (T_Promised := T_Promised) (T_Fixed := T_Fixed) (T_TooMany := T_TooMany) (T_NothingToUndo := T_NothingToUndo)) b2
  have FU__law_throw : @FnF I1 ⟨True⟩ l.prog w K mg base 2 "_law_throw" f__law_throw := by letI I2 : GdW := ⟨True⟩; exact fnF_mk (by decide) (PySem.W.mg_of X G a3) k3 (ok__law_throw (P := l.prog) (w := w) (mg := mg) (base := base) F3 (F__law_throw_other := FU__law_throw_other) (T_BadPart := T_BadPart) (T_BadNumber := T_BadNumber) (T_BadIndex := T_BadIndex) (T_BadName := T_BadName) (T_BadKey := T_BadKey) (T_BadErrand := T_BadErrand) (T_BadOrder := T_BadOrder) (T_NoWay := T_NoWay) (T_Ring := T_Ring)) b3
  have FU__law_named_other : @FnF I1 ⟨True⟩ l.prog w K mg base 1 "_law_named_other" f__law_named_other := by letI I2 : GdW := ⟨True⟩; exact fnF_mk (by decide) (PySem.W.mg_of X G a4) k4 (ok__law_named_other (P := l.prog) (w := w) (mg := mg) (base := base) F4 (T_BadThing := T_BadThing) (T_NotSo := T_NotSo) (T_BadPaper := T_BadPaper) (T_BadTiding := T_BadTiding) (T_BadMenu := T_BadMenu) (T_BadText := T_BadText) (T_BadDeed := T_BadDeed) (T_Promised := T_Promised) (T_Fixed := T_Fixed) (T_TooMany := T_TooMany) (T_NothingToUndo := T_NothingToUndo)) b4
  have FU__law_named : @FnF I1 ⟨True⟩ l.prog w K mg base 2 "_law_named" f__law_named := by letI I2 : GdW := ⟨True⟩; exact fnF_mk (by decide) (PySem.W.mg_of X G a5) k5 (ok__law_named (P := l.prog) (w := w) (mg := mg) (base := base) F5 (F__law_named_other := FU__law_named_other) (T_BadPart := T_BadPart) (T_BadNumber := T_BadNumber) (T_BadIndex := T_BadIndex) (T_BadName := T_BadName) (T_BadKey := T_BadKey) (T_BadErrand := T_BadErrand) (T_BadOrder := T_BadOrder) (T_NoWay := T_NoWay) (T_Ring := T_Ring)) b5
  have FU__law_kept : @FnF I1 ⟨True⟩ l.prog w K mg base 1 "_law_kept" f__law_kept := by letI I2 : GdW := ⟨True⟩; exact fnF_mk (by decide) (PySem.W.mg_of X G a6) k6 (ok__law_kept (P := l.prog) (w := w) (mg := mg) (base := base) F6 (KF_part := KF_part) (KF_number := KF_number) (KF_index := KF_index) (KF_name := KF_name) (KF_key := KF_key) (KF_pair := KF_pair) (KF_ring := KF_ring) (KF_thing := KF_thing) (KF_word := KF_word) (KF_reason := KF_reason) (KF_line := KF_line) (KF_limit := KF_limit)) b6
  have FU__law_kinds : @FnF I1 ⟨True⟩ l.prog w K mg base 1 "_law_kinds" f__law_kinds := by letI I2 : GdW := ⟨True⟩; exact fnF_mk (by decide) (PySem.W.mg_of X G a7) k7 (ok__law_kinds (P := l.prog) (w := w) (mg := mg) (base := base) F7 (gI_BadPart := g_BadPart) (gI_BadNumber := g_BadNumber) (gI_BadIndex := g_BadIndex) (gI_BadName := g_BadName) (gI_BadKey := g_BadKey) (gI_BadErrand := g_BadErrand) (gI_BadOrder := g_BadOrder) (gI_NoWay := g_NoWay) (gI_Ring := g_Ring) (gI_BadThing := g_BadThing) (gI_NotSo := g_NotSo) (gI_BadPaper := g_BadPaper) (gI_BadTiding := g_BadTiding) (gI_BadMenu := g_BadMenu) (gI_BadText := g_BadText) (gI_BadDeed := g_BadDeed) (gI_Promised := g_Promised) (gI_Fixed := g_Fixed) (KI_BadPart := KI_BadPart) (KI_BadNumber := KI_BadNumber) (KI_BadIndex := KI_BadIndex) (KI_BadName := KI_BadName) (KI_BadKey := KI_BadKey) (KI_BadErrand := KI_BadErrand) (KI_BadOrder := KI_BadOrder) (KI_NoWay := KI_NoWay) (KI_Ring := KI_Ring) (KI_BadThing := KI_BadThing) (KI_NotSo := KI_NotSo) (KI_BadPaper := KI_BadPaper) (KI_BadTiding := KI_BadTiding) (KI_BadMenu := KI_BadMenu) (KI_BadText := KI_BadText) (KI_BadDeed := KI_BadDeed) (KI_Promised := KI_Promised) (KI_Fixed := KI_Fixed) (z_isinstance := z_isinstance) (z_range := z_range) (z_len := z_len)) b7
  have FU__law_caught : @FnF I1 ⟨True⟩ l.prog w K mg base 3 "_law_caught" f__law_caught := by letI I2 : GdW := ⟨True⟩; exact fnF_mk (by decide) (PySem.W.mg_of X G a8) k8 (ok__law_caught (P := l.prog) (w := w) (mg := mg) (base := base) F8 (F__law_throw := FU__law_throw) (gI_DayError := g_DayError) (gI_TooMany := g_TooMany) (gI_NothingToUndo := g_NothingToUndo) (KT := KT)) b8
  have FU__law_value : @FnF I1 ⟨True⟩ l.prog w K mg base 2 "_law_value" f__law_value := by letI I2 : GdW := ⟨True⟩; exact fnF_mk (by decide) (PySem.W.mg_of X G a9) k9 (ok__law_value (P := l.prog) (w := w) (mg := mg) (base := base) F9 (F__law_draw := FU__law_draw)) b9
  letI I2 : GdW := ⟨True⟩
  exact (ok_law (P := l.prog) (w := w) (mg := mg) (base := base) F10 (F__law_value := FU__law_value) (F__law_caught := FU__law_caught) (F__law_named := FU__law_named) (F__law_kept := FU__law_kept) (F__law_kinds := FU__law_kinds) (F__law_start := FU__law_start) (gI_DayError := g_DayError) (KI_DayError := KI_DayError) (KI_ValueError := KI_ValueError) (z_range := z_range) (z_isinstance := z_isinstance) (z_ValueError := z_ValueError) (z_int := z_int)).imp fun vs H Q E h => law_imp (fun ns hn => math ns hn) h
end Mp
open PySem PySem.W PyProof.Rows
theorem PySem.Challenge.cw_risingday_k99_errors_and_wrong_kinds_holds : PySem.Challenge.rw_risingday_k99_errors_and_wrong_kinds.Holds := by
  w_on; o_law; k_head; (case hw => w_witness2)
  k_fill
  letI I2 : Mp.GdW := ⟨True⟩
  refine Mp.walkG (l := PySem.Challenge.rw_risingday_k99_errors_and_wrong_kinds) (n := 63) (k := 4) (x := "_law_script") rfl (by rw [sizeLine_eq]; decide) rfl ⟨⟨rfl, by decide, by decide⟩, fun _ => rfl⟩ (fun w h Y => by first | exact PySem.W.kIn_of Y | exact PySem.W.km_in_of Y) ?F
  case F =>
    intro w mg mb fa h s0 Gr Y KX G hmg
    refine' Mp.all_mk KX G hmg  ?oc_hn ?oc_ht ?aC_DayError ?eC_DayError ?tyC_DayError ?icC_DayError ?aC_BadPart ?xC_BadPart ?saC_BadPart ?gaC_BadPart ?ggC_BadPart ?haC_BadPart ?nbC_BadPart ?iC_BadPart ?tiC_BadPart ?lC_BadPart ?cC_BadPart ?kC_BadPart ?aC_BadNumber ?xC_BadNumber ?saC_BadNumber ?gaC_BadNumber ?ggC_BadNumber ?haC_BadNumber ?nbC_BadNumber ?iC_BadNumber ?tiC_BadNumber ?lC_BadNumber ?cC_BadNumber ?kC_BadNumber ?aC_BadIndex ?xC_BadIndex ?saC_BadIndex ?gaC_BadIndex ?ggC_BadIndex ?haC_BadIndex ?nbC_BadIndex ?iC_BadIndex ?tiC_BadIndex ?lC_BadIndex ?cC_BadIndex ?kC_BadIndex ?aC_BadName ?xC_BadName ?saC_BadName ?gaC_BadName ?ggC_BadName ?haC_BadName ?nbC_BadName ?iC_BadName ?tiC_BadName ?lC_BadName ?cC_BadName ?kC_BadName ?aC_BadKey ?xC_BadKey ?saC_BadKey ?gaC_BadKey ?ggC_BadKey ?haC_BadKey ?nbC_BadKey ?iC_BadKey ?tiC_BadKey ?lC_BadKey ?cC_BadKey ?kC_BadKey ?aC_BadErrand ?xC_BadErrand ?saC_BadErrand ?gaC_BadErrand ?ggC_BadErrand ?haC_BadErrand ?nbC_BadErrand ?iC_BadErrand ?tiC_BadErrand ?lC_BadErrand ?cC_BadErrand ?kC_BadErrand ?aC_BadOrder ?xC_BadOrder ?saC_BadOrder ?gaC_BadOrder ?ggC_BadOrder ?haC_BadOrder ?nbC_BadOrder ?iC_BadOrder ?tiC_BadOrder ?lC_BadOrder ?cC_BadOrder ?kC_BadOrder ?aC_NoWay ?xC_NoWay ?saC_NoWay ?gaC_NoWay ?ggC_NoWay ?haC_NoWay ?nbC_NoWay ?iC_NoWay ?tiC_NoWay ?lC_NoWay ?cC_NoWay ?kC_NoWay ?aC_Ring ?xC_Ring ?saC_Ring ?gaC_Ring ?ggC_Ring ?haC_Ring ?nbC_Ring ?iC_Ring ?tiC_Ring ?lC_Ring ?cC_Ring ?kC_Ring ?aC_BadThing ?xC_BadThing ?saC_BadThing ?gaC_BadThing ?ggC_BadThing ?haC_BadThing ?nbC_BadThing ?iC_BadThing ?tiC_BadThing ?lC_BadThing ?cC_BadThing ?kC_BadThing ?aC_NotSo ?xC_NotSo ?saC_NotSo ?gaC_NotSo ?ggC_NotSo ?haC_NotSo ?nbC_NotSo ?iC_NotSo ?tiC_NotSo ?lC_NotSo ?cC_NotSo ?kC_NotSo ?aC_BadPaper ?xC_BadPaper ?saC_BadPaper ?gaC_BadPaper ?ggC_BadPaper ?haC_BadPaper ?nbC_BadPaper ?iC_BadPaper ?tiC_BadPaper ?lC_BadPaper ?cC_BadPaper ?kC_BadPaper ?aC_BadTiding ?xC_BadTiding ?saC_BadTiding ?gaC_BadTiding ?ggC_BadTiding ?haC_BadTiding ?nbC_BadTiding ?iC_BadTiding ?tiC_BadTiding ?lC_BadTiding ?cC_BadTiding ?kC_BadTiding ?aC_BadMenu ?xC_BadMenu ?saC_BadMenu ?gaC_BadMenu ?ggC_BadMenu ?haC_BadMenu ?nbC_BadMenu ?iC_BadMenu ?tiC_BadMenu ?lC_BadMenu ?cC_BadMenu ?kC_BadMenu ?aC_BadText ?xC_BadText ?saC_BadText ?gaC_BadText ?ggC_BadText ?haC_BadText ?nbC_BadText ?iC_BadText ?tiC_BadText ?lC_BadText ?cC_BadText ?kC_BadText ?aC_BadDeed ?xC_BadDeed ?saC_BadDeed ?gaC_BadDeed ?ggC_BadDeed ?haC_BadDeed ?nbC_BadDeed ?iC_BadDeed ?tiC_BadDeed ?lC_BadDeed ?cC_BadDeed ?kC_BadDeed ?aC_Promised ?xC_Promised ?saC_Promised ?gaC_Promised ?ggC_Promised ?haC_Promised ?nbC_Promised ?iC_Promised ?tiC_Promised ?lC_Promised ?cC_Promised ?kC_Promised ?aC_Fixed ?xC_Fixed ?saC_Fixed ?gaC_Fixed ?ggC_Fixed ?haC_Fixed ?nbC_Fixed ?iC_Fixed ?tiC_Fixed ?lC_Fixed ?cC_Fixed ?kC_Fixed ?aC_TooMany ?xC_TooMany ?saC_TooMany ?gaC_TooMany ?ggC_TooMany ?haC_TooMany ?nbC_TooMany ?iC_TooMany ?tiC_TooMany ?lC_TooMany ?cC_TooMany ?kC_TooMany ?aC_NothingToUndo ?xC_NothingToUndo ?saC_NothingToUndo ?gaC_NothingToUndo ?ggC_NothingToUndo ?haC_NothingToUndo ?nbC_NothingToUndo ?iC_NothingToUndo ?tiC_NothingToUndo ?lC_NothingToUndo ?cC_NothingToUndo ?kC_NothingToUndo ?D_nd ?Z_len ?Z_abs ?Z_int ?Z_isinstance ?Z_range ?Z_ValueError ?a0 ?l0 ?c0 ?k0 ?a1 ?l1 ?c1 ?k1 ?a2 ?l2 ?c2 ?k2 ?a3 ?l3 ?c3 ?k3 ?a4 ?l4 ?c4 ?k4 ?a5 ?l5 ?c5 ?k5 ?a6 ?l6 ?c6 ?k6 ?a7 ?l7 ?c7 ?k7 ?a8 ?l8 ?c8 ?k8 ?a9 ?l9 ?c9 ?k9 ?a10 ?l10 ?c10 ?k10 Mp.math
    (case oc_hn => k_is)
    (case oc_ht => k_is)
    (case aC_DayError => k_is)
    (case eC_DayError => k_is)
    (case tyC_DayError => k_is)
    (case icC_DayError => k_is)
    (case aC_BadPart => k_is)
    (case xC_BadPart => k_is)
    (case saC_BadPart => k_is)
    (case gaC_BadPart => k_is)
    (case ggC_BadPart => k_is)
    (case haC_BadPart => k_is)
    (case nbC_BadPart => k_is)
    (case iC_BadPart => k_is)
    (case tiC_BadPart => k_is)
    (case lC_BadPart => k_is)
    (case cC_BadPart => k_is)
    (case kC_BadPart => k_is)
    (case aC_BadNumber => k_is)
    (case xC_BadNumber => k_is)
    (case saC_BadNumber => k_is)
    (case gaC_BadNumber => k_is)
    (case ggC_BadNumber => k_is)
    (case haC_BadNumber => k_is)
    (case nbC_BadNumber => k_is)
    (case iC_BadNumber => k_is)
    (case tiC_BadNumber => k_is)
    (case lC_BadNumber => k_is)
    (case cC_BadNumber => k_is)
    (case kC_BadNumber => k_is)
    (case aC_BadIndex => k_is)
    (case xC_BadIndex => k_is)
    (case saC_BadIndex => k_is)
    (case gaC_BadIndex => k_is)
    (case ggC_BadIndex => k_is)
    (case haC_BadIndex => k_is)
    (case nbC_BadIndex => k_is)
    (case iC_BadIndex => k_is)
    (case tiC_BadIndex => k_is)
    (case lC_BadIndex => k_is)
    (case cC_BadIndex => k_is)
    (case kC_BadIndex => k_is)
    (case aC_BadName => k_is)
    (case xC_BadName => k_is)
    (case saC_BadName => k_is)
    (case gaC_BadName => k_is)
    (case ggC_BadName => k_is)
    (case haC_BadName => k_is)
    (case nbC_BadName => k_is)
    (case iC_BadName => k_is)
    (case tiC_BadName => k_is)
    (case lC_BadName => k_is)
    (case cC_BadName => k_is)
    (case kC_BadName => k_is)
    (case aC_BadKey => k_is)
    (case xC_BadKey => k_is)
    (case saC_BadKey => k_is)
    (case gaC_BadKey => k_is)
    (case ggC_BadKey => k_is)
    (case haC_BadKey => k_is)
    (case nbC_BadKey => k_is)
    (case iC_BadKey => k_is)
    (case tiC_BadKey => k_is)
    (case lC_BadKey => k_is)
    (case cC_BadKey => k_is)
    (case kC_BadKey => k_is)
    (case aC_BadErrand => k_is)
    (case xC_BadErrand => k_is)
    (case saC_BadErrand => k_is)
    (case gaC_BadErrand => k_is)
    (case ggC_BadErrand => k_is)
    (case haC_BadErrand => k_is)
    (case nbC_BadErrand => k_is)
    (case iC_BadErrand => k_is)
    (case tiC_BadErrand => k_is)
    (case lC_BadErrand => k_is)
    (case cC_BadErrand => k_is)
    (case kC_BadErrand => k_is)
    (case aC_BadOrder => k_is)
    (case xC_BadOrder => k_is)
    (case saC_BadOrder => k_is)
    (case gaC_BadOrder => k_is)
    (case ggC_BadOrder => k_is)
    (case haC_BadOrder => k_is)
    (case nbC_BadOrder => k_is)
    (case iC_BadOrder => k_is)
    (case tiC_BadOrder => k_is)
    (case lC_BadOrder => k_is)
    (case cC_BadOrder => k_is)
    (case kC_BadOrder => k_is)
    (case aC_NoWay => k_is)
    (case xC_NoWay => k_is)
    (case saC_NoWay => k_is)
    (case gaC_NoWay => k_is)
    (case ggC_NoWay => k_is)
    (case haC_NoWay => k_is)
    (case nbC_NoWay => k_is)
    (case iC_NoWay => k_is)
    (case tiC_NoWay => k_is)
    (case lC_NoWay => k_is)
    (case cC_NoWay => k_is)
    (case kC_NoWay => k_is)
    (case aC_Ring => k_is)
    (case xC_Ring => k_is)
    (case saC_Ring => k_is)
    (case gaC_Ring => k_is)
    (case ggC_Ring => k_is)
    (case haC_Ring => k_is)
    (case nbC_Ring => k_is)
    (case iC_Ring => k_is)
    (case tiC_Ring => k_is)
    (case lC_Ring => k_is)
    (case cC_Ring => k_is)
    (case kC_Ring => k_is)
    (case aC_BadThing => k_is)
    (case xC_BadThing => k_is)
    (case saC_BadThing => k_is)
    (case gaC_BadThing => k_is)
    (case ggC_BadThing => k_is)
    (case haC_BadThing => k_is)
    (case nbC_BadThing => k_is)
    (case iC_BadThing => k_is)
    (case tiC_BadThing => k_is)
    (case lC_BadThing => k_is)
    (case cC_BadThing => k_is)
    (case kC_BadThing => k_is)
    (case aC_NotSo => k_is)
    (case xC_NotSo => k_is)
    (case saC_NotSo => k_is)
    (case gaC_NotSo => k_is)
    (case ggC_NotSo => k_is)
    (case haC_NotSo => k_is)
    (case nbC_NotSo => k_is)
    (case iC_NotSo => k_is)
    (case tiC_NotSo => k_is)
    (case lC_NotSo => k_is)
    (case cC_NotSo => k_is)
    (case kC_NotSo => k_is)
    (case aC_BadPaper => k_is)
    (case xC_BadPaper => k_is)
    (case saC_BadPaper => k_is)
    (case gaC_BadPaper => k_is)
    (case ggC_BadPaper => k_is)
    (case haC_BadPaper => k_is)
    (case nbC_BadPaper => k_is)
    (case iC_BadPaper => k_is)
    (case tiC_BadPaper => k_is)
    (case lC_BadPaper => k_is)
    (case cC_BadPaper => k_is)
    (case kC_BadPaper => k_is)
    (case aC_BadTiding => k_is)
    (case xC_BadTiding => k_is)
    (case saC_BadTiding => k_is)
    (case gaC_BadTiding => k_is)
    (case ggC_BadTiding => k_is)
    (case haC_BadTiding => k_is)
    (case nbC_BadTiding => k_is)
    (case iC_BadTiding => k_is)
    (case tiC_BadTiding => k_is)
    (case lC_BadTiding => k_is)
    (case cC_BadTiding => k_is)
    (case kC_BadTiding => k_is)
    (case aC_BadMenu => k_is)
    (case xC_BadMenu => k_is)
    (case saC_BadMenu => k_is)
    (case gaC_BadMenu => k_is)
    (case ggC_BadMenu => k_is)
    (case haC_BadMenu => k_is)
    (case nbC_BadMenu => k_is)
    (case iC_BadMenu => k_is)
    (case tiC_BadMenu => k_is)
    (case lC_BadMenu => k_is)
    (case cC_BadMenu => k_is)
    (case kC_BadMenu => k_is)
    (case aC_BadText => k_is)
    (case xC_BadText => k_is)
    (case saC_BadText => k_is)
    (case gaC_BadText => k_is)
    (case ggC_BadText => k_is)
    (case haC_BadText => k_is)
    (case nbC_BadText => k_is)
    (case iC_BadText => k_is)
    (case tiC_BadText => k_is)
    (case lC_BadText => k_is)
    (case cC_BadText => k_is)
    (case kC_BadText => k_is)
    (case aC_BadDeed => k_is)
    (case xC_BadDeed => k_is)
    (case saC_BadDeed => k_is)
    (case gaC_BadDeed => k_is)
    (case ggC_BadDeed => k_is)
    (case haC_BadDeed => k_is)
    (case nbC_BadDeed => k_is)
    (case iC_BadDeed => k_is)
    (case tiC_BadDeed => k_is)
    (case lC_BadDeed => k_is)
    (case cC_BadDeed => k_is)
    (case kC_BadDeed => k_is)
    (case aC_Promised => k_is)
    (case xC_Promised => k_is)
    (case saC_Promised => k_is)
    (case gaC_Promised => k_is)
    (case ggC_Promised => k_is)
    (case haC_Promised => k_is)
    (case nbC_Promised => k_is)
    (case iC_Promised => k_is)
    (case tiC_Promised => k_is)
    (case lC_Promised => k_is)
    (case cC_Promised => k_is)
    (case kC_Promised => k_is)
    (case aC_Fixed => k_is)
    (case xC_Fixed => k_is)
    (case saC_Fixed => k_is)
    (case gaC_Fixed => k_is)
    (case ggC_Fixed => k_is)
    (case haC_Fixed => k_is)
    (case nbC_Fixed => k_is)
    (case iC_Fixed => k_is)
    (case tiC_Fixed => k_is)
    (case lC_Fixed => k_is)
    (case cC_Fixed => k_is)
    (case kC_Fixed => k_is)
    (case aC_TooMany => k_is)
    (case xC_TooMany => k_is)
    (case saC_TooMany => k_is)
    (case gaC_TooMany => k_is)
    (case ggC_TooMany => k_is)
    (case haC_TooMany => k_is)
    (case nbC_TooMany => k_is)
    (case iC_TooMany => k_is)
    (case tiC_TooMany => k_is)
    (case lC_TooMany => k_is)
    (case cC_TooMany => k_is)
    (case kC_TooMany => k_is)
    (case aC_NothingToUndo => k_is)
    (case xC_NothingToUndo => k_is)
    (case saC_NothingToUndo => k_is)
    (case gaC_NothingToUndo => k_is)
    (case ggC_NothingToUndo => k_is)
    (case haC_NothingToUndo => k_is)
    (case nbC_NothingToUndo => k_is)
    (case iC_NothingToUndo => k_is)
    (case tiC_NothingToUndo => k_is)
    (case lC_NothingToUndo => k_is)
    (case cC_NothingToUndo => k_is)
    (case kC_NothingToUndo => k_is)
    (case D_nd => decide)
    (case Z_len => k_is)
    (case Z_abs => k_is)
    (case Z_int => k_is)
    (case Z_isinstance => k_is)
    (case Z_range => k_is)
    (case Z_ValueError => k_is)
    (case a0 => k_is)
    (case l0 => k_is)
    (case c0 => k_is)
    (case k0 => k_is)
    (case a1 => k_is)
    (case l1 => k_is)
    (case c1 => k_is)
    (case k1 => k_is)
    (case a2 => k_is)
    (case l2 => k_is)
    (case c2 => k_is)
    (case k2 => k_is)
    (case a3 => k_is)
    (case l3 => k_is)
    (case c3 => k_is)
    (case k3 => k_is)
    (case a4 => k_is)
    (case l4 => k_is)
    (case c4 => k_is)
    (case k4 => k_is)
    (case a5 => k_is)
    (case l5 => k_is)
    (case c5 => k_is)
    (case k5 => k_is)
    (case a6 => k_is)
    (case l6 => k_is)
    (case c6 => k_is)
    (case k6 => k_is)
    (case a7 => k_is)
    (case l7 => k_is)
    (case c7 => k_is)
    (case k7 => k_is)
    (case a8 => k_is)
    (case l8 => k_is)
    (case c8 => k_is)
    (case k8 => k_is)
    (case a9 => k_is)
    (case l9 => k_is)
    (case c9 => k_is)
    (case k9 => k_is)
    (case a10 => k_is)
    (case l10 => k_is)
    (case c10 => k_is)
    (case k10 => k_is)
