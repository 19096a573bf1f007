import PyProof.Rows.All
import Wide.All
import OpenK.AllK
import Wide.FinOn
import HandS.ForMost
import HandS.ForExc
import HandS.Star
import HandS.IsInst
import HandS.Wide
import HandS.TupAny
import HandS.Style
import HandS.Flow
import HandS.Conv
import HandS.Walk
import HandS.Rev
import HandS.Zip
import HandS.CallSlots
import HandS.Defaults
import HandS.OwnEq
import HandS.RevRange
import HandS.WideMore
import HandS.TryOnly
import HandS.ExcField
import HandS.List
import HandS.ExcOwn
import PyProof.ExcBaseAll.ValueError
import HandS.Records
import KE.DataMinMax
import KE.SortData
import HandS.More
import HandS.DictComp
import HandS.SortInts
import KE.KEqNest
import PyProof.NeKinds
import HandS.Ends
import PySem.Challenge.RW_siltstore_k53_whole_tails
set_option Elab.async false
set_option linter.all false
set_option maxRecDepth 100000
namespace DL
open PySem L2

/-! ## data without a heap -/
inductive D where
  | non | bl (b : Bool) | int (i : Int) | str (x : Str)
  | lst (xs : List D) | tup (xs : List D)
  | dic (ks : List Key) (xs : List D)
  | obj (C : Addr) (ns : List Str) (xs : List D)
  | raw (v : V)
  /-- a list of the module's own: only read -/
  | kls (xs : List D)
  /-- a caught exception: its address and its dict's, its class, its fields -/
  | exc (a : Addr) (cls : Value) (dd : Option Addr) (ns : List Str) (xs : List D)

/-- values that are known by themselves -/
def isRaw : V → Bool
  | .byt _ => true | .flt _ => true | .ref _ => true | .ty _ => true
  | _ => false

def KL (K : PySem.W.Frag) (a : Addr) (vs : List V) : Prop := ∃ (o : Obj) (its : Array Value) (n : Nat), K.lookup a = some o ∧ o.cls = .type "list" ∧ o.dict = none ∧ o.data = .seq its n ∧ its.size ≤ sizeLine ∧ Vals vs its.toList
mutual
inductive Rep (K : PySem.W.Frag) (H : Hp) : V → D → Prop
  | non : Rep K H .non .non
  | bl (b : Bool) : Rep K H (.bl b) (.bl b)
  | int (i : Int) : Rep K H (.int i) (.int i)
  | str (x : Str) : Rep K H (.str x) (.str x)
  | raw (v : V) : isRaw v = true → Rep K H v (.raw v)
  | lst {a : Addr} {vs : List V} {ds : List D} : Rd H a (.lst vs) → Reps K H vs ds → Rep K H (.ref a) (.lst ds)
  | tup {a : Addr} {vs : List V} {ds : List D} : SqT K H a vs → Reps K H vs ds → Rep K H (.ref a) (.tup ds)
  | dic {a : Addr} {kvs : List (Key × V)} {ds : List D} : Rd H a (.dK kvs) → Reps K H (kvs.map (·.2)) ds → Rep K H (.ref a) (.dic (kvs.map (·.1)) ds)
  | obj {a C dx : Addr} {fs : List (Str × V)} {ds : List D} : H a = some (.ins C dx fs) → Reps K H (fs.map (·.2)) ds → Rep K H (.ref a) (.obj C (fs.map (·.1)) ds)
  | kls {a : Addr} {vs : List V} {ds : List D} : KL K a vs → Reps K H vs ds → Rep K H (.ref a) (.kls ds)
  | excN {a : Addr} {cls : Value} : Rep K H (.ref a) (.exc a cls none [] [])
  | exc {a d : Addr} {cls : Value} {fs : List (Str × V)} {ds : List D} : H d = some (.xd fs) → Reps K H (fs.map (·.2)) ds → Rep K H (.ref a) (.exc a cls (some d) (fs.map (·.1)) ds)
inductive Reps (K : PySem.W.Frag) (H : Hp) : List V → List D → Prop
  | nil : Reps K H [] []
  | cons {v : V} {vs : List V} {d : D} {ds : List D} : Rep K H v d → Reps K H vs ds → Reps K H (v :: vs) (d :: ds)
end

theorem rd_mono {H H' : Hp} (e : ∀ b o, H b = some o → H' b = some o) {a : Addr} {u : HO} (h : Rd H a u) : Rd H' a u := by
  rcases h with h | ⟨o, h⟩
  · exact .inl (e _ _ h)
  · exact .inr ⟨o, e _ _ h⟩
theorem sqT_mono {K : PySem.W.Frag} {H H' : Hp} (e : ∀ b o, H b = some o → H' b = some o) {a : Addr} {xs : List V} (h : SqT K H a xs) : SqT K H' a xs := by
  rcases h with h | h
  · exact .inl (rd_mono e h)
  · exact .inr h
theorem Rep.mono {K : PySem.W.Frag} {H H' : Hp} (e : ∀ b o, H b = some o → H' b = some o) {v : V} {d : D} (h : Rep K H v d) : Rep K H' v d :=
  Rep.rec (motive_1 := fun v d _ => Rep K H' v d) (motive_2 := fun vs ds _ => Reps K H' vs ds)
    .non .bl .int .str .raw (fun r _ ih => .lst (rd_mono e r) ih) (fun r _ ih => .tup (sqT_mono e r) ih) (fun r _ ih => .dic (rd_mono e r) ih) (fun r _ ih => .obj (e _ _ r) ih) (fun r _ ih => .kls r ih) .excN (fun r _ ih => .exc (e _ _ r) ih) .nil (fun _ _ a b => .cons a b) h
theorem Reps.mono {K : PySem.W.Frag} {H H' : Hp} (e : ∀ b o, H b = some o → H' b = some o) {v : List V} {d : List D} (h : Reps K H v d) : Reps K H' v d :=
  Reps.rec (motive_1 := fun v d _ => Rep K H' v d) (motive_2 := fun vs ds _ => Reps K H' vs ds)
    .non .bl .int .str .raw (fun r _ ih => .lst (rd_mono e r) ih) (fun r _ ih => .tup (sqT_mono e r) ih) (fun r _ ih => .dic (rd_mono e r) ih) (fun r _ ih => .obj (e _ _ r) ih) (fun r _ ih => .kls r ih) .excN (fun r _ ih => .exc (e _ _ r) ih) .nil (fun _ _ a b => .cons a b) h

section
variable {K : PySem.W.Frag} {H : Hp}
theorem Reps.length {vs : List V} {ds : List D} : Reps K H vs ds → vs.length = ds.length := by
  induction vs generalizing ds with
  | nil => intro h; cases h; rfl
  | cons v vs ih => intro h; cases h with | cons _ h2 => simp [ih h2]
theorem Reps.get {vs : List V} {ds : List D} (h : Reps K H vs ds) {i : Nat} {d : D} (e : ds[i]? = some d) : ∃ v, vs[i]? = some v ∧ Rep K H v d := by
  induction vs generalizing ds i with
  | nil => cases h; simp at e
  | cons v vs ih =>
    cases h with
    | cons h1 h2 =>
      cases i with
      | zero => simp at e; subst e; exact ⟨v, by simp, h1⟩
      | succ i => simpa using ih h2 (by simpa using e)
theorem Reps.getV {vs : List V} {ds : List D} (h : Reps K H vs ds) {i : Nat} {v : V} (e : vs[i]? = some v) : ∃ d, ds[i]? = some d ∧ Rep K H v d := by
  induction vs generalizing ds i with
  | nil => simp at e
  | cons v vs ih =>
    cases h with
    | cons h1 h2 =>
      cases i with
      | zero => simp at e; subst e; exact ⟨_, by simp, h1⟩
      | succ i => simpa using ih h2 (by simpa using e)
theorem Reps.append {vs us : List V} {ds es : List D} (h : Reps K H vs ds) (h' : Reps K H us es) : Reps K H (vs ++ us) (ds ++ es) := by
  induction vs generalizing ds with
  | nil => cases h; exact h'
  | cons v vs ih => cases h with | cons h1 h2 => exact .cons h1 (ih h2)
theorem Reps.take {vs : List V} {ds : List D} (n : Nat) (h : Reps K H vs ds) : Reps K H (vs.take n) (ds.take n) := by
  induction vs generalizing ds n with
  | nil => cases h; simp; exact .nil
  | cons v vs ih => cases h with | cons h1 h2 => cases n with
    | zero => exact .nil
    | succ n => exact .cons h1 (ih n h2)
theorem Reps.drop {vs : List V} {ds : List D} (n : Nat) (h : Reps K H vs ds) : Reps K H (vs.drop n) (ds.drop n) := by
  induction vs generalizing ds n with
  | nil => cases h; simp; exact .nil
  | cons v vs ih => cases h with | cons h1 h2 => cases n with
    | zero => exact .cons h1 h2
    | succ n => exact ih n h2
theorem Reps.set {vs : List V} {ds : List D} {v : V} {d : D} (r : Rep K H v d) (n : Nat) (h : Reps K H vs ds) : Reps K H (vs.set n v) (ds.set n d) := by
  induction vs generalizing ds n with
  | nil => cases h; simp; exact .nil
  | cons u vs ih => cases h with | cons h1 h2 => cases n with
    | zero => exact .cons r h2
    | succ n => exact .cons h1 (ih n h2)
theorem Reps.dropLast {vs : List V} {ds : List D} (h : Reps K H vs ds) : Reps K H vs.dropLast ds.dropLast := by
  rw [List.dropLast_eq_take, List.dropLast_eq_take, h.length]; exact h.take _
theorem Reps.eraseIdx {vs : List V} {ds : List D} (n : Nat) (h : Reps K H vs ds) : Reps K H (vs.eraseIdx n) (ds.eraseIdx n) := by
  rw [List.eraseIdx_eq_take_drop_succ, List.eraseIdx_eq_take_drop_succ]; exact (h.take n).append (h.drop (n + 1))
theorem Reps.rep {vs : List V} {ds : List D} (h : Reps K H vs ds) : ∀ k : Nat, Reps K H (List.replicate k vs).flatten (List.replicate k ds).flatten
  | 0 => .nil
  | k + 1 => by simpa [List.replicate_succ] using h.append (h.rep k)
theorem Reps.reverse {vs : List V} {ds : List D} (h : Reps K H vs ds) : Reps K H vs.reverse ds.reverse := by
  induction vs generalizing ds with
  | nil => cases h; exact .nil
  | cons v vs ih => cases h with | cons h1 h2 => simpa using (ih h2).append (.cons h1 .nil)
theorem reps_ints : ∀ (ns : List Int), Reps K H (ns.map V.int) (ns.map D.int)
  | [] => .nil
  | n :: ns => .cons (.int n) (reps_ints ns)
end

/-! ## what a slot holds: nothing known, data that is not changed any more, an object that is the frame's own -/
inductive OD where
  | lst (xs : List D)
  | dic (ks : List Key) (xs : List D)
  | ins (C dx : Addr) (ns : List Str) (xs : List D)
inductive Sl where
  | no | v (d : D) | own (o : OD)
abbrev Env := List Sl
def Env.at : Env → Nat → Sl
  | [], _ => .no
  | s :: _, 0 => s
  | _ :: r, i + 1 => Env.at r i
def Env.put : Env → Nat → Sl → Env
  | [], _, _ => []
  | _ :: r, 0, x => x :: r
  | s :: r, i + 1, x => s :: Env.put r i x
theorem Env.put_len (x : Sl) : ∀ (ρ : Env) (i : Nat), (ρ.put i x).length = ρ.length
  | [], _ => rfl
  | _ :: _, 0 => rfl
  | _ :: r, i + 1 => congrArg Nat.succ (Env.put_len x r i)
theorem Env.at_put (x : Sl) : ∀ (ρ : Env) (i j : Nat), i < ρ.length → (ρ.put i x).at j = if j = i then x else ρ.at j
  | [], _, _, h => by simp at h
  | _ :: _, 0, 0, _ => rfl
  | _ :: _, 0, j + 1, _ => by simp [Env.put, Env.at]
  | _ :: _, i + 1, 0, _ => by simp [Env.put, Env.at]
  | _ :: r, i + 1, j + 1, h => by
    have := Env.at_put x r i j (by simpa using h)
    simpa [Env.put, Env.at] using this

def ownAs (a : Addr) : OD → List Addr
  | .ins _ dx _ _ => [a, dx]
  | _ => [a]
def slotAs : Option V → Sl → List Addr
  | some (.ref a), .own o => ownAs a o
  | _, _ => []
def owned : St → Env → List Addr
  | v :: σ, s :: ρ => slotAs v s ++ owned σ ρ
  | _, _ => []
def hide (A : List Addr) (H : Hp) : Hp := fun b => if b ∈ A then none else H b
theorem hide_in {A : List Addr} {H : Hp} {b : Addr} (h : b ∈ A) : hide A H b = none := if_pos h
theorem hide_out {A : List Addr} {H : Hp} {b : Addr} (h : b ∉ A) : hide A H b = H b := if_neg h
theorem hide_some {A : List Addr} {H : Hp} {b : Addr} {o : HO} (h : hide A H b = some o) : b ∉ A ∧ H b = some o := by
  by_cases q : b ∈ A
  · rw [hide_in q] at h; cases h
  · rw [hide_out q] at h; exact ⟨q, h⟩

def OwnAt (K : PySem.W.Frag) (Hm H : Hp) (a : Addr) : OD → Prop
  | .lst ds => ∃ vs, H a = some (.lst vs) ∧ Reps K Hm vs ds
  | .dic ks ds => ∃ kvs, H a = some (.dK kvs) ∧ kvs.map (·.1) = ks ∧ Reps K Hm (kvs.map (·.2)) ds
  | .ins C dx ns ds => ∃ fs, H a = some (.ins C dx fs) ∧ fs.map (·.1) = ns ∧ Reps K Hm (fs.map (·.2)) ds ∧ H dx = some (.own a)
def SlotOk (K : PySem.W.Frag) (Hm H : Hp) : Option V → Sl → Prop
  | _, .no => True
  | some v, .v d => Rep K Hm v d
  | some (.ref a), .own o => OwnAt K Hm H a o
  | _, _ => False

/-- the frame: what stood ahead of the def, what is hidden besides the slots' own objects, the parameters that are handed back -/
structure Fm where
  G : Hp
  E : List Addr
  F : List (Nat × Addr)
/-- more is hidden -/
abbrev Fm.ex (fm : Fm) (B : List Addr) : Fm := ⟨fm.G, B ++ fm.E, fm.F⟩
abbrev Fm.hid (fm : Fm) (σ : St) (ρ : Env) (H : Hp) : Hp := hide (fm.E ++ owned σ ρ) H
/-- objects that may be the frame's own -/
def Ownable : HO → Prop
  | .lst _ => True
  | .dK _ => True
  | .ins _ _ _ => True
  | .own _ => True
  | _ => False
structure RS (K : PySem.W.Frag) (fm : Fm) (H : Hp) (σ : St) (ρ : Env) : Prop where
  len : σ.length = ρ.length
  sl : ∀ i, SlotOk K (fm.hid σ ρ H) H (σ.getD i none) (ρ.at i)
  nd : (fm.E ++ owned σ ρ).Nodup
  tr : ∀ a ∈ fm.E ++ owned σ ρ, (∃ o, H a = some o ∧ Ownable o) ∧ fm.G a = none
  ins : ∀ b C dx fs, H b = some (.ins C dx fs) → H dx = some (.own b)
  cl : ∀ b C dx fs, H b = some (.ins C dx fs) → (dx ∈ fm.E ++ owned σ ρ ↔ b ∈ fm.E ++ owned σ ρ)
  co : ∀ c b, c ∈ fm.E ++ owned σ ρ → H c = some (.own b) → b ∈ fm.E ++ owned σ ρ ∧ ∃ C fs, H b = some (.ins C c fs)
  keep : ∀ b o, fm.G b = some o → H b = some o
  fx : ∀ p ∈ fm.F, σ[p.1]? = some (some (.ref p.2))
/-- from one state to another within the same slots: what is not the frame's own stays -/
structure Go (σ : St) (H : Hp) (ρ : Env) (H' : Hp) (ρ' : Env) : Prop where
  fr : ∀ b o, H b = some o → b ∉ owned σ ρ → H' b = some o
  sh : ∀ a ∈ owned σ ρ', a ∈ owned σ ρ
theorem Go.refl (σ : St) (H : Hp) (ρ : Env) : Go σ H ρ H ρ := ⟨fun _ _ h _ => h, fun _ h => h⟩
theorem Go.trans {σ : St} {H H1 H2 : Hp} {ρ ρ1 ρ2 : Env} (a : Go σ H ρ H1 ρ1) (b : Go σ H1 ρ1 H2 ρ2) : Go σ H ρ H2 ρ2 :=
  ⟨fun c o h n => b.fr c o (a.fr c o h n) fun z => n (a.sh c z), fun c h => a.sh c (b.sh c h)⟩
theorem Go.sub {fm : Fm} {σ : St} {H H' : Hp} {ρ ρ' : Env} (g : Go σ H ρ H' ρ') : ∀ b o, fm.hid σ ρ H b = some o → fm.hid σ ρ' H' b = some o := fun b o h => by
  obtain ⟨n, h⟩ := hide_some h
  rw [List.mem_append, not_or] at n
  have n' : b ∉ fm.E ++ owned σ ρ' := by rw [List.mem_append, not_or]; exact ⟨n.1, fun z => n.2 (g.sh b z)⟩
  exact (hide_out n').trans (g.fr b o h n.2)
theorem Go.rep {K : PySem.W.Frag} {fm : Fm} {σ : St} {H H' : Hp} {ρ ρ' : Env} (g : Go σ H ρ H' ρ') {v : V} {d : D} (r : Rep K (fm.hid σ ρ H) v d) : Rep K (fm.hid σ ρ' H') v d := r.mono g.sub
theorem Go.reps {K : PySem.W.Frag} {fm : Fm} {σ : St} {H H' : Hp} {ρ ρ' : Env} (g : Go σ H ρ H' ρ') {v : List V} {d : List D} (r : Reps K (fm.hid σ ρ H) v d) : Reps K (fm.hid σ ρ' H') v d := r.mono g.sub
theorem hid_le {A : List Addr} {H : Hp} : ∀ b o, hide A H b = some o → H b = some o := fun _ _ h => (hide_some h).2

/-- a new object: fresh, whatever it is -/
theorem RS.new {K : PySem.W.Frag} {fm : Fm} {H : Hp} {σ : St} {ρ : Env} (r : RS K fm H σ ρ) {p : Addr} {o : HO} (hp : H p = none) (no : ∀ C dx fs, o ≠ .ins C dx fs) : RS K fm (upd H p o) σ ρ ∧ Go σ H ρ (upd H p o) ρ ∧ p ∉ fm.E ++ owned σ ρ := by
  have nA : p ∉ fm.E ++ owned σ ρ := fun z => by
    obtain ⟨⟨o', h, _⟩, _⟩ := r.tr p z
    rw [hp] at h; cases h
  have up : ∀ b u, H b = some u → upd H p o b = some u := fun b u e => by rw [upd_ne (ne_of_none e hp)]; exact e
  have g : Go σ H ρ (upd H p o) ρ := ⟨fun b u h _ => up b u h, fun _ h => h⟩
  refine ⟨⟨r.len, fun i => ?_, r.nd, fun a ha => ?_, fun b C dx fs h => ?_, fun b C dx fs h => ?_, fun c b hc h => ?_, fun b u h => up b u (r.keep b u h), r.fx⟩, g, nA⟩
  · have q := r.sl i
    revert q
    cases σ.getD i none with
    | none => cases ρ.at i <;> exact fun q => q
    | some v =>
      cases ρ.at i with
      | no => exact fun q => q
      | v d => exact fun q => Rep.mono g.sub q
      | own od =>
        cases v with
        | ref a =>
          intro q
          cases od with
          | lst ds => obtain ⟨vs, h1, h2⟩ := q; exact ⟨vs, up _ _ h1, h2.mono g.sub⟩
          | dic ks ds => obtain ⟨kvs, h1, h2, h3⟩ := q; exact ⟨kvs, up _ _ h1, h2, h3.mono g.sub⟩
          | ins C dx ns ds => obtain ⟨fs, h1, h2, h3, h4⟩ := q; exact ⟨fs, up _ _ h1, h2, h3.mono g.sub, up _ _ h4⟩
        | _ => exact fun q => q
  · obtain ⟨⟨u, h, w⟩, h'⟩ := r.tr a ha
    exact ⟨⟨u, up _ _ h, w⟩, h'⟩
  · by_cases e : b = p
    · subst e; rw [upd_same] at h; exact absurd (Option.some.inj h) (no _ _ _)
    · rw [upd_ne e] at h; exact up _ _ (r.ins b C dx fs h)
  · by_cases e : b = p
    · subst e; rw [upd_same] at h; exact absurd (Option.some.inj h) (no _ _ _)
    · rw [upd_ne e] at h; exact r.cl b C dx fs h
  · have nc : c ≠ p := fun e => by subst e; exact nA hc
    rw [upd_ne nc] at h
    obtain ⟨h1, C, fs, h2⟩ := r.co c b hc h
    exact ⟨h1, C, fs, up _ _ h2⟩
end DL

set_option Elab.async false
set_option linter.all false
set_option maxRecDepth 100000
namespace DL
open PySem L2

/-! ## heaps that grew by new objects -/
inductive Alc : Hp → Hp → Prop
  | refl (H : Hp) : Alc H H
  | step {H H1 : Hp} {p : Addr} {o : HO} : Alc H H1 → H1 p = none → (∀ C dx fs, o ≠ .ins C dx fs) → Alc H (upd H1 p o)
theorem Alc.one {H : Hp} {p : Addr} {o : HO} (h : H p = none) (n : ∀ C dx fs, o ≠ .ins C dx fs) : Alc H (upd H p o) := .step (.refl H) h n
theorem Alc.trans {H H1 H2 : Hp} (a : Alc H H1) (b : Alc H1 H2) : Alc H H2 := by
  induction b with
  | refl => exact a
  | step _ h n ih => exact .step ih h n
theorem Alc.up {H H' : Hp} (a : Alc H H') : ∀ b o, H b = some o → H' b = some o := by
  induction a with
  | refl => exact fun _ _ h => h
  | step _ h n ih => intro b o e; rw [upd_ne (ne_of_none (ih b o e) h)]; exact ih b o e
theorem Alc.rs {K : PySem.W.Frag} {fm : Fm} {H H' : Hp} {σ : St} {ρ : Env} (a : Alc H H') (r : RS K fm H σ ρ) : RS K fm H' σ ρ ∧ Go σ H ρ H' ρ := by
  induction a with
  | refl => exact ⟨r, .refl ..⟩
  | step _ h n ih =>
    obtain ⟨r1, g1, _⟩ := ih.1.new h n
    exact ⟨r1, ih.2.trans g1⟩
theorem Alc.hid {A : List Addr} {H H' : Hp} (a : Alc H H') : ∀ b o, hide A H b = some o → hide A H' b = some o := fun b o h => by
  obtain ⟨n, h⟩ := hide_some h
  rw [hide_out n]; exact a.up b o h

/-! ## exceptions -/
structure Exn where
  cls : Value
  ns : List Str
  xs : List D
def ExR (K : PySem.W.Frag) (Hm H : Hp) (cls : Value) (dd : Option Addr) (x : Exn) : Prop :=
  cls = x.cls ∧ match dd with
    | none => x.ns = [] ∧ x.xs = []
    | some a => ∃ fs, H a = some (.xd fs) ∧ fs.map (·.1) = x.ns ∧ Reps K Hm (fs.map (·.2)) x.xs

/-! ## judgements over data -/
abbrev KR := Exn → Env → Prop
abbrev WE := Env → (D → Env → Prop) → KR → Prop
abbrev WO := Env → (OD → Env → Prop) → KR → Prop
abbrev WT := Env → (Bool → Env → Prop) → KR → Prop
abbrev WA := Env → (List D → Env → Prop) → KR → Prop

/-- what is said of a state reached within the same slots -/
structure To (K : PySem.W.Frag) (fm : Fm) (σ : St) (H : Hp) (ρ : Env) (H' : Hp) (ρ' : Env) : Prop where
  rs : RS K fm H' σ ρ'
  go : Go σ H ρ H' ρ'
theorem To.trans {K : PySem.W.Frag} {fm : Fm} {σ : St} {H H1 H2 : Hp} {ρ ρ1 ρ2 : Env} (a : To K fm σ H ρ H1 ρ1) (b : To K fm σ H1 ρ1 H2 ρ2) : To K fm σ H ρ H2 ρ2 := ⟨b.rs, a.go.trans b.go⟩
theorem To.refl {K : PySem.W.Frag} {fm : Fm} {σ : St} {H : Hp} {ρ : Env} (r : RS K fm H σ ρ) : To K fm σ H ρ H ρ := ⟨r, .refl ..⟩
theorem To.alc {K : PySem.W.Frag} {fm : Fm} {σ : St} {H H1 H2 : Hp} {ρ ρ1 : Env} (a : To K fm σ H ρ H1 ρ1) (b : Alc H1 H2) : To K fm σ H ρ H2 ρ1 := ⟨(b.rs a.rs).1, a.go.trans (b.rs a.rs).2⟩
/-- a new object of its own came, hidden so far -/
structure NewO (K : PySem.W.Frag) (fm : Fm) (σ : St) (H : Hp) (ρ : Env) (H' : Hp) (ρ' : Env) (p : Addr) (o : OD) : Prop where
  to : To K fm σ H ρ H' ρ'
  rs : RS K (fm.ex (ownAs p o)) H' σ ρ'
  mo : ∀ b u, fm.hid σ ρ H b = some u → (fm.ex (ownAs p o)).hid σ ρ' H' b = some u
  oa : OwnAt K (hide (ownAs p o ++ (fm.E ++ owned σ ρ')) H') H' p o
theorem NewO.of {K : PySem.W.Frag} {fm : Fm} {σ : St} {H H1 H2 : Hp} {ρ ρ1 ρ2 : Env} {p : Addr} {o : OD} (t : To K fm σ H ρ H1 ρ1) (n : NewO K fm σ H1 ρ1 H2 ρ2 p o) : NewO K fm σ H ρ H2 ρ2 p o :=
  ⟨t.trans n.to, n.rs, fun b u h => n.mo b u (t.go.sub b u h), n.oa⟩
/-- what is wished of exceptions; the slots of parameters that are handed back -/
structure WW where
  x : WX
  io : List Nat := []

structure XOk (K : PySem.W.Frag) (W : WW) (fm : Fm) (σ : St) (H : Hp) (ρ : Env) (R : KR) : Prop where
  io : ∀ p ∈ fm.F, p.1 ∈ W.io
  ok : ∀ x ρ' H' cls dd, R x ρ' → To K fm σ H ρ H' ρ' → ExR K (fm.hid σ ρ' H') H' cls dd x → W.x cls dd σ H'
theorem XOk.to {K : PySem.W.Frag} {W : WW} {fm : Fm} {σ : St} {H H1 : Hp} {ρ ρ1 : Env} {R : KR} (x : XOk K W fm σ H ρ R) (t : To K fm σ H ρ H1 ρ1) : XOk K W fm σ H1 ρ1 R :=
  ⟨x.io, fun e ρ' H' cls dd r t' q => x.ok e ρ' H' cls dd r (t.trans t') q⟩

/-- an expression's reading and what it means over data -/
def LE (K : PySem.W.Frag) (W : WW) (t : TE) (w : WE) : Prop :=
  ∀ (fm : Fm) (H : Hp) (σ : St) (ρ : Env) (Q : D → Env → Prop) (R : KR) (QV : VK), RS K fm H σ ρ → w ρ Q R → XOk K W fm σ H ρ R →
    (∀ v H' d ρ', Q d ρ' → To K fm σ H ρ H' ρ' → Rep K (fm.hid σ ρ' H') v d → QV v H') → t σ H QV
/-- one that gives a new object -/
def LO (K : PySem.W.Frag) (W : WW) (t : TE) (w : WO) : Prop :=
  ∀ (fm : Fm) (H : Hp) (σ : St) (ρ : Env) (Q : OD → Env → Prop) (R : KR) (QV : VK), RS K fm H σ ρ → w ρ Q R → XOk K W fm σ H ρ R →
    (∀ p H' o ρ', Q o ρ' → NewO K fm σ H ρ H' ρ' p o → QV (.ref p) H') → t σ H QV
def LT (K : PySem.W.Frag) (W : WW) (t : TT) (w : WT) : Prop :=
  ∀ (fm : Fm) (H : Hp) (σ : St) (ρ : Env) (Q : Bool → Env → Prop) (R : KR) (QV : Bool → Hp → Prop), RS K fm H σ ρ → w ρ Q R → XOk K W fm σ H ρ R →
    (∀ b H' ρ', Q b ρ' → To K fm σ H ρ H' ρ' → QV b H') → t σ H QV
def LA (K : PySem.W.Frag) (W : WW) (t : TA) (w : WA) : Prop :=
  ∀ (fm : Fm) (H : Hp) (σ : St) (ρ : Env) (Q : List D → Env → Prop) (R : KR) (QV : List V → Hp → Prop), RS K fm H σ ρ → w ρ Q R → XOk K W fm σ H ρ R →
    (∀ vs H' ds ρ', Q ds ρ' → To K fm σ H ρ H' ρ' → Reps K (fm.hid σ ρ' H') vs ds → QV vs H') → t σ H QV
structure DE (X : Cx) (W : WW) (e : Expr) (w : WE) : Prop where
  ex : ∃ t, PE X e t ∧ LE X.K W t w
structure DO (X : Cx) (W : WW) (e : Expr) (w : WO) : Prop where
  ex : ∃ t, PE X e t ∧ LO X.K W t w
structure DT (X : Cx) (W : WW) (e : Expr) (w : WT) : Prop where
  ex : ∃ t, PT X e t ∧ LT X.K W t w
structure DA (X : Cx) (W : WW) (es : List Expr) (w : WA) : Prop where
  ex : ∃ t, PA X es t ∧ LA X.K W t w

/-- a new object, as data -/
def OD.toD : OD → D
  | .lst xs => .lst xs
  | .dic ks xs => .dic ks xs
  | .ins C _ ns xs => .obj C ns xs
theorem own_rep {K : PySem.W.Frag} {A B : List Addr} {H : Hp} {p : Addr} {o : OD} (h : OwnAt K (hide (B ++ A) H) H p o) (n : p ∉ A) : Rep K (hide A H) (.ref p) o.toD := by
  have up : ∀ b u, hide (B ++ A) H b = some u → hide A H b = some u := fun b u e => by
    obtain ⟨m, e⟩ := hide_some e
    rw [hide_out (fun z => m (List.mem_append_right _ z))]; exact e
  cases o with
  | lst ds =>
    obtain ⟨vs, h1, h2⟩ := h
    exact .lst (.inl (by rw [hide_out n]; exact h1)) (h2.mono up)
  | dic ks ds =>
    obtain ⟨kvs, h1, h2, h3⟩ := h
    subst h2
    exact .dic (.inl (by rw [hide_out n]; exact h1)) (h3.mono up)
  | ins C dx ns ds =>
    obtain ⟨fs, h1, h2, h3, _⟩ := h
    subst h2
    exact .obj (by rw [hide_out n]; exact h1) (h3.mono up)
theorem mem_ownAs (p : Addr) (o : OD) : p ∈ ownAs p o := by cases o <;> simp [ownAs]
theorem RS.notin {K : PySem.W.Frag} {fm : Fm} {B : List Addr} {H : Hp} {σ : St} {ρ : Env} (r : RS K (fm.ex B) H σ ρ) {a : Addr} (h : a ∈ B) : a ∉ fm.E ++ owned σ ρ := fun z => by
  have nd := r.nd
  rw [show (fm.ex B).E ++ owned σ ρ = B ++ (fm.E ++ owned σ ρ) from List.append_assoc ..] at nd
  exact (List.nodup_append.mp nd).2.2 a h a z rfl
def wOD (w : WO) : WE := fun ρ Q R => w ρ (fun o ρ' => Q o.toD ρ') R
theorem LO.le {K : PySem.W.Frag} {W : WW} {t : TE} {w : WO} (h : LO K W t w) : LE K W t (wOD w) := fun fm H σ ρ Q R QV r q x k =>
  h fm H σ ρ _ R QV r q x fun p H' o ρ' q' n => k _ H' _ ρ' q' n.to (own_rep (B := ownAs p o) n.oa (n.rs.notin (mem_ownAs p o)))
theorem DO.de {X : Cx} {W : WW} {e : Expr} {w : WO} (h : DO X W e w) : DE X W e (wOD w) := by
  obtain ⟨t, p, l⟩ := h.ex
  exact ⟨t, p, l.le⟩

section
variable {X : Cx} {W : WW} {K : PySem.W.Frag}
/-! ### names, constants -/
def valOf (s : Sl) (k : D → Prop) : Prop := match s with | .v d => k d | _ => False
def wVar (i : Nat) : WE := fun ρ Q _ => valOf (ρ.at i) fun d => Q d ρ
theorem getD_some {σ : St} {i : Nat} {v : V} (h : σ.getD i none = some v) : σ[i]? = some (some v) := by
  rw [List.getD_eq_getElem?_getD] at h
  cases e : σ[i]? with
  | none => rw [e] at h; cases h
  | some x => rw [e] at h; exact congrArg some h
theorem le_var (i : Nat) : LE K W (tVar i) (wVar i) := fun fm H σ ρ Q R QV r q x k => by
  have s := r.sl i
  unfold wVar at q
  cases e : ρ.at i with
  | no => rw [e] at q; exact q.elim
  | own o => rw [e] at q; exact q.elim
  | v d =>
    rw [e] at q s
    cases e2 : σ.getD i none with
    | none => rw [e2] at s; exact s.elim
    | some v => rw [e2] at s; exact ⟨v, getD_some e2, k v H d ρ q (.refl r) s⟩
theorem de_var {e : Expr} (i : Nat) (h : PE X e (tVar i)) : DE X W e (wVar i) := ⟨_, h, le_var i⟩
def wC (d : D) : WE := fun ρ Q _ => Q d ρ
theorem le_c {v : V} {d : D} (r : ∀ H, Rep K H v d) : LE K W (tC v) (wC d) := fun fm H σ ρ Q R QV s q x k => k v H d ρ q (.refl s) (r _)
theorem de_int {i j pos} : DE X W (.Constant (.int i) j pos) (wC (.int i)) := ⟨_, pe_int, le_c fun _ => .int i⟩
theorem de_bl {b j pos} : DE X W (.Constant (.bool b) j pos) (wC (.bl b)) := ⟨_, pe_bl, le_c fun _ => .bl b⟩
theorem de_non {j pos} : DE X W (.Constant .none j pos) (wC .non) := ⟨_, pe_non, le_c fun _ => .non⟩
theorem de_str {x j pos} : DE X W (.Constant (.str x) j pos) (wC (.str x)) := ⟨_, pe_str, le_c fun _ => .str x⟩
/-- a module's constant -/
theorem de_gint {x : Str} {i : Int} {pos : Pos} (hg : Gl X x) (hm : ∃ t, X.mg x = some (.int i t)) (hd : (x == ("__debug__" : Str)) = false := by decide) : DE X W (.Name x pos) (wC (.int i)) := by
  obtain ⟨t, hm⟩ := hm
  exact ⟨_, pe_glob (v := .int i) hg hm ⟨t, rfl⟩ hd, le_c fun _ => .int i⟩

/-! ### operators by values -/
/-- a two-place operation by readings, and over data -/
abbrev O2 := D → D → (D → Prop) → Prop
def OpS (K : PySem.W.Frag) (r : R2) (o : O2) : Prop := ∀ (A : List Addr) (H : Hp) (x y : V) (d e : D) (k : D → Prop) (Q : VK), (∀ a ∈ A, H a ≠ none) → Rep K (hide A H) x d → Rep K (hide A H) y e → o d e k →
  (∀ v d' H', k d' → Alc H H' → Rep K (hide A H') v d' → Q v H') → r x y H Q
theorem RS.trk {fm : Fm} {H : Hp} {σ : St} {ρ : Env} (r : RS K fm H σ ρ) : ∀ a ∈ fm.E ++ owned σ ρ, H a ≠ none := fun a ha z => by
  obtain ⟨⟨o, h, _⟩, _⟩ := r.tr a ha
  rw [z] at h; cases h
def w2 (o : O2) (a b : WE) : WE := fun ρ Q R => a ρ (fun d ρ1 => b ρ1 (fun e ρ2 => o d e fun z => Q z ρ2) R) R
theorem le_2 {r : R2} {o : O2} {ta tb : TE} {a b : WE} (ho : OpS K r o) (ha : LE K W ta a) (hb : LE K W tb b) : LE K W (tOp r ta tb) (w2 o a b) := fun fm H σ ρ Q R QV s q x k =>
  ha fm H σ ρ _ R _ s q x fun v H1 d ρ1 q1 g1 r1 => hb fm H1 σ ρ1 _ R _ g1.rs q1 (x.to g1) fun u H2 e ρ2 q2 g2 r2 =>
    ho _ H2 v u d e _ QV g2.rs.trk (g2.go.rep r1) r2 q2 fun z dz H3 qz al rz => k z H3 dz ρ2 qz ((g1.trans g2).alc al) rz
theorem de_op {op : Operator} {r : R2} {o : O2} {a b : Expr} {wa wb : WE} {pos : Pos} (ho : OpR X (binaryOp op) r) (hs : OpS X.K r o) (ha : DE X W a wa) (hb : DE X W b wb) : DE X W (.BinOp a op b pos) (w2 o wa wb) := by
  obtain ⟨ta, pa, la⟩ := ha.ex
  obtain ⟨tb, pb, lb⟩ := hb.ex
  exact ⟨_, pe_op ho pa pb, le_2 hs la lb⟩
theorem de_cmp {op : CmpOp} {r : R2} {o : O2} {a b : Expr} {wa wb : WE} {pos : Pos} (ho : OpR X (compareOp op) r) (hs : OpS X.K r o) (ha : DE X W a wa) (hb : DE X W b wb) (hm : behindInMarks op b = false) : DE X W (.Compare a [op] [b] pos) (w2 o wa wb) := by
  obtain ⟨ta, pa, la⟩ := ha.ex
  obtain ⟨tb, pb, lb⟩ := hb.ex
  exact ⟨_, pe_cmpR ho pa pb hm, le_2 hs la lb⟩
/-- a value that is a bool, as a test -/
def blOf (d : D) (k : Bool → Prop) : Prop := match d with | .bl b => k b | _ => False
def wTest (a : WE) : WT := fun ρ Q R => a ρ (fun d ρ1 => blOf d fun b => Q b ρ1) R
theorem lt_test {ta : TE} {a : WE} (ha : LE K W ta a) : LT K W (tTest ta) (wTest a) := fun fm H σ ρ Q R QV s q x k =>
  ha fm H σ ρ _ R _ s q x fun v H1 d ρ1 q1 g1 r1 => by
    cases d with
    | bl b => cases r1; exact ⟨b, rfl, k b H1 ρ1 q1 g1⟩
    | _ => exact q1.elim
theorem dt_cmp {op : CmpOp} {r : R2} {o : O2} {a b : Expr} {wa wb : WE} {pos : Pos} (ho : OpR X (compareOp op) r) (hs : OpS X.K r o) (ha : DE X W a wa) (hb : DE X W b wb) (hm : behindInMarks op b = false) : DT X W (.Compare a [op] [b] pos) (wTest (w2 o wa wb)) := by
  obtain ⟨ta, pa, la⟩ := ha.ex
  obtain ⟨tb, pb, lb⟩ := hb.ex
  exact ⟨_, pt_cmpR ho pa pb hm, lt_test (le_2 hs la lb)⟩

/-! ### two ints -/
def o2I (C : Int → Int → Prop) (g : Int → Int → D) : O2 := fun d e k => match d, e with | .int i, .int j => C i j ∧ k (g i j) | _, _ => False
def o2I0 (g : Int → Int → D) : O2 := fun d e k => match d, e with | .int i, .int j => k (g i j) | _, _ => False
theorem ops_I {C : Int → Int → Prop} {g : Int → Int → V} {g' : Int → Int → D} (h : ∀ i j H, Rep K H (g i j) (g' i j)) : OpS K (rI C g) (o2I C g') := fun A H x y d e k Q tr rx ry q f => by
  cases d <;> cases e <;> first | exact q.elim | skip
  cases rx; cases ry
  exact ⟨_, _, rfl, rfl, q.1, f _ _ H q.2 (.refl H) (h _ _ _)⟩
theorem ops_I0 {g : Int → Int → V} {g' : Int → Int → D} (h : ∀ i j H, Rep K H (g i j) (g' i j)) : OpS K (rI0 g) (o2I0 g') := fun A H x y d e k Q tr rx ry q f => by
  cases d <;> cases e <;> first | exact q.elim | skip
  cases rx; cases ry
  exact ⟨_, _, rfl, rfl, f _ _ H q (.refl H) (h _ _ _)⟩
end
end DL

set_option Elab.async false
set_option linter.all false
set_option maxRecDepth 100000
namespace DL
open PySem L2

section
variable {X : Cx} {W : WW} {K : PySem.W.Frag}
/-! ### borrowing: what a slot's own object is worth just now -/
def bor (s : Sl) (k : D → Prop) : Prop := match s with | .v d => k d | .own o => k o.toD | .no => False
theorem RS.bor {fm : Fm} {H : Hp} {σ : St} {ρ : Env} (r : RS K fm H σ ρ) {i : Nat} {k : D → Prop} (h : bor (ρ.at i) k) :
    ∃ v d A', σ[i]? = some (some v) ∧ k d ∧ (∀ a ∈ A', H a ≠ none) ∧ (∀ b o, fm.hid σ ρ H b = some o → hide A' H b = some o) ∧ Rep K (hide A' H) v d := by
  have s := r.sl i
  cases e : ρ.at i with
  | no => rw [e] at h; exact h.elim
  | v d =>
    rw [e] at h s
    cases e2 : σ.getD i none with
    | none => rw [e2] at s; exact s.elim
    | some v => rw [e2] at s; exact ⟨v, d, _, getD_some e2, h, r.trk, fun _ _ q => q, s⟩
  | own o =>
    rw [e] at h s
    cases e2 : σ.getD i none with
    | none => rw [e2] at s; exact s.elim
    | some v =>
      rw [e2] at s
      cases v with
      | ref a =>
        refine ⟨.ref a, o.toD, (fm.E ++ owned σ ρ).filter (fun b => decide (b ∉ ownAs a o)), getD_some e2, h, fun b hb => r.trk b (List.mem_filter.mp hb).1, fun b u q => ?_, ?_⟩
        · obtain ⟨n, q⟩ := hide_some q
          rw [hide_out (fun z => n (List.mem_filter.mp z).1)]; exact q
        · have na : a ∉ (fm.E ++ owned σ ρ).filter (fun b => decide (b ∉ ownAs a o)) := fun z => by
            have := (List.mem_filter.mp z).2
            simp [mem_ownAs] at this
          have up : ∀ b u, fm.hid σ ρ H b = some u → hide ((fm.E ++ owned σ ρ).filter (fun b => decide (b ∉ ownAs a o))) H b = some u := fun b u q => by
            obtain ⟨n, q⟩ := hide_some q
            rw [hide_out (fun z => n (List.mem_filter.mp z).1)]; exact q
          cases o with
          | lst ds => obtain ⟨vs, h1, h2⟩ := s; exact .lst (.inl (by rw [hide_out na]; exact h1)) (h2.mono up)
          | dic ks ds => obtain ⟨kvs, h1, h2, h3⟩ := s; subst h2; exact .dic (.inl (by rw [hide_out na]; exact h1)) (h3.mono up)
          | ins C dx ns ds => obtain ⟨fs, h1, h2, h3, _⟩ := s; subst h2; exact .obj (by rw [hide_out na]; exact h1) (h3.mono up)
      | _ => exact s.elim

def isScal : D → Bool
  | .non => true | .bl _ => true | .int _ => true | .str _ => true
  | _ => false
theorem rep_scal {H H' : Hp} {v : V} {d : D} (h : Rep K H v d) (s : isScal d = true) : Rep K H' v d := by
  cases h with
  | non => exact .non
  | bl b => exact .bl b
  | int i => exact .int i
  | str x => exact .str x
  | _ => cases s

/-! ### one-place operations and calls by values -/
abbrev O1 := D → (D → Prop) → Prop
abbrev OL := List D → (D → Prop) → Prop
def UnS (K : PySem.W.Frag) (r : V → Hp → VK → Prop) (o : O1) : Prop := ∀ (A : List Addr) (H : Hp) (x : V) (d : D) (k : D → Prop) (Q : VK), (∀ a ∈ A, H a ≠ none) → Rep K (hide A H) x d → o d k →
  (∀ v d' H', k d' → Alc H H' → Rep K (hide A H') v d' → Q v H') → r x H Q
def ClS (K : PySem.W.Frag) (r : List V → Hp → VK → Prop) (o : OL) : Prop := ∀ (A : List Addr) (H : Hp) (xs : List V) (ds : List D) (k : D → Prop) (Q : VK), (∀ a ∈ A, H a ≠ none) → Reps K (hide A H) xs ds → o ds k →
  (∀ v d' H', k d' → Alc H H' → Rep K (hide A H') v d' → Q v H') → r xs H Q
def w1 (o : O1) (a : WE) : WE := fun ρ Q R => a ρ (fun d ρ1 => o d fun z => Q z ρ1) R
theorem le_1 {r : V → Hp → VK → Prop} {o : O1} {ta : TE} {a : WE} (ho : UnS K r o) (ha : LE K W ta a) : LE K W (tUn r ta) (w1 o a) := fun fm H σ ρ Q R QV s q x k =>
  ha fm H σ ρ _ R _ s q x fun v H1 d ρ1 q1 g1 r1 => ho _ H1 v d _ QV g1.rs.trk r1 q1 fun z dz H3 qz al rz => k z H3 dz ρ1 qz (g1.alc al) rz
theorem de_un {op : UnaryOp} {r : V → Hp → VK → Prop} {o : O1} {a : Expr} {wa : WE} {pos : Pos} (ho : UnR X (unaryOp op) r) (hs : UnS X.K r o) (ha : DE X W a wa) : DE X W (.UnaryOp op a pos) (w1 o wa) := by
  obtain ⟨ta, pa, la⟩ := ha.ex
  exact ⟨_, pe_un ho pa, le_1 hs la⟩
/-! args -/
def waNil : WA := fun ρ Q _ => Q [] ρ
def waCons (a : WE) (r : WA) : WA := fun ρ Q R => a ρ (fun d ρ1 => r ρ1 (fun ds ρ2 => Q (d :: ds) ρ2) R) R
theorem la_nil : LA K W tNil waNil := fun fm H σ ρ Q R QV s q x k => k [] H [] ρ q (.refl s) .nil
theorem la_cons {te : TE} {t : TA} {a : WE} {r : WA} (ha : LE K W te a) (hr : LA K W t r) : LA K W (tCons te t) (waCons a r) := fun fm H σ ρ Q R QV s q x k =>
  ha fm H σ ρ _ R _ s q x fun v H1 d ρ1 q1 g1 r1 => hr fm H1 σ ρ1 _ R _ g1.rs q1 (x.to g1) fun vs H2 ds ρ2 q2 g2 r2 =>
    k (v :: vs) H2 (d :: ds) ρ2 q2 (g1.trans g2) (.cons (g2.go.rep r1) r2)
theorem da_nil : DA X W [] waNil := ⟨_, pa_nil, la_nil⟩
theorem da_cons {e : Expr} {es : List Expr} {a : WE} {r : WA} (ha : DE X W e a) (hr : DA X W es r) (hs : starEach (e :: es) X.env = (false, eval e X.env) :: starEach es X.env := by rfl) : DA X W (e :: es) (waCons a r) := by
  obtain ⟨ta, pa, la⟩ := ha.ex
  obtain ⟨tb, pb, lb⟩ := hr.ex
  exact ⟨_, pa_cons pa pb hs, la_cons la lb⟩
def seqOf (d : D) (k : List D → Prop) : Prop := match d with | .lst xs => k xs | .tup xs => k xs | _ => False
def waStar (a : WE) (r : WA) : WA := fun ρ Q R => a ρ (fun d ρ1 => seqOf d fun xs => r ρ1 (fun ds ρ2 => Q (xs ++ ds) ρ2) R) R
theorem rd_sql {H : Hp} {a : Addr} {vs : List V} (h : Rd H a (.lst vs)) : SqL K H a vs := .inl h
theorem Rep.lst_inv {H : Hp} {v : V} {ds : List D} (h : Rep K H v (.lst ds)) : ∃ a vs, v = .ref a ∧ Rd H a (.lst vs) ∧ Reps K H vs ds := by cases h; exact ⟨_, _, rfl, by assumption, by assumption⟩
theorem Rep.tup_inv {H : Hp} {v : V} {ds : List D} (h : Rep K H v (.tup ds)) : ∃ a vs, v = .ref a ∧ SqT K H a vs ∧ Reps K H vs ds := by cases h; exact ⟨_, _, rfl, by assumption, by assumption⟩
theorem sqL_mono {H H' : Hp} (e : ∀ b o, H b = some o → H' b = some o) {a : Addr} {xs : List V} (h : SqL K H a xs) : SqL K H' a xs := by
  rcases h with h | h
  · exact .inl (rd_mono e h)
  · exact .inr h
theorem la_star {te : TE} {t : TA} {a : WE} {r : WA} (ha : LE K W te a) (hr : LA K W t r) : LA K W (StX.tStar K te t) (waStar a r) := fun fm H σ ρ Q R QV s q x k =>
  ha fm H σ ρ _ R _ s q x fun v H1 d ρ1 q1 g1 r1 => by
    cases d <;> first | exact q1.elim | skip
    · obtain ⟨p, vs, rfl, h, rr⟩ := r1.lst_inv
      exact ⟨p, vs, rfl, .inr (.inl (rd_mono hid_le h)), hr fm H1 σ ρ1 _ R _ g1.rs q1 (x.to g1) fun us H2 ds ρ2 q2 g2 r2 => k _ H2 _ ρ2 q2 (g1.trans g2) ((g2.go.reps rr).append r2)⟩
    · obtain ⟨p, vs, rfl, h, rr⟩ := r1.tup_inv
      exact ⟨p, vs, rfl, .inl (sqT_mono hid_le h), hr fm H1 σ ρ1 _ R _ g1.rs q1 (x.to g1) fun us H2 ds ρ2 q2 g2 r2 => k _ H2 _ ρ2 q2 (g1.trans g2) ((g2.go.reps rr).append r2)⟩
theorem da_star {e : Expr} {p : Pos} {es : List Expr} {a : WE} {r : WA} (ha : DE X W e a) (hr : DA X W es r) (hs : starEach (.Starred e p :: es) X.env = (true, eval e X.env) :: starEach es X.env := by rfl) : DA X W (.Starred e p :: es) (waStar a r) := by
  obtain ⟨ta, pa, la⟩ := ha.ex
  obtain ⟨tb, pb, lb⟩ := hr.ex
  exact ⟨_, StX.pa_star pa pb hs, la_star la lb⟩
/-! displays -/
def LIM : Nat := 16777216
theorem lim : LIM = sizeLine := PySem.sizeLine_eq.symm
def wTup (a : WA) : WE := fun ρ Q R => a ρ (fun ds ρ1 => ds.length ≤ LIM ∧ Q (.tup ds) ρ1) R
theorem de_tup {es : List Expr} {a : WA} {x1} {pos : Pos} (ha : DA X W es a) : DE X W (.Tuple es x1 pos) (wTup a) := by
  obtain ⟨t, p, l⟩ := ha.ex
  refine ⟨_, pe_tup p, fun fm H σ ρ Q R QV s q x k => l fm H σ ρ _ R _ s q x fun vs H1 ds ρ1 q1 g1 r1 => ⟨by rw [r1.length, ← lim]; exact q1.1, fun p hp => ?_⟩⟩
  obtain ⟨r2, g2, n2⟩ := g1.rs.new (o := .tup vs) hp (fun _ _ _ z => nomatch z)
  exact k _ _ _ ρ1 q1.2 (g1.trans ⟨r2, g2⟩) (.tup (.inl (.inl ((hide_out n2).trans upd_same))) (g2.reps r1))
/-- a new object at a fresh place, hidden -/
theorem RS.newE {fm : Fm} {H : Hp} {σ : St} {ρ : Env} (r : RS K fm H σ ρ) {p : Addr} {o : HO} (hp : H p = none) (ow : Ownable o) (no : ∀ C dx fs, o ≠ .ins C dx fs) (no2 : ∀ b, o ≠ .own b) : RS K (fm.ex [p]) (upd H p o) σ ρ := by
  obtain ⟨r2, g2, n2⟩ := r.new (o := o) hp no
  have gp : fm.G p = none := by
    cases q : fm.G p with
    | none => rfl
    | some o => have := r.keep p o q; rw [hp] at this; cases this
  have up : ∀ b u, fm.hid σ ρ H b = some u → (fm.ex [p]).hid σ ρ (upd H p o) b = some u := fun b u e => by
    obtain ⟨m, e⟩ := hide_some e
    have nb : b ≠ p := ne_of_none e hp
    refine (hide_out ?_).trans ((upd_ne nb).trans e)
    show b ∉ (p :: fm.E) ++ owned σ ρ
    rw [List.cons_append, List.mem_cons, not_or]; exact ⟨nb, m⟩
  have upH : ∀ b u, H b = some u → upd H p o b = some u := fun b u e => (upd_ne (ne_of_none e hp)).trans e
  refine ⟨r.len, fun i => ?_, ?_, fun a ha => ?_, r2.ins, fun b C dx fs h => ?_, fun c b hc h => ?_, r2.keep, r.fx⟩
  · have q := r.sl i
    revert q
    cases σ.getD i none with
    | none => cases ρ.at i <;> exact fun q => q
    | some v =>
      cases ρ.at i with
      | no => exact fun q => q
      | v d => exact fun q => Rep.mono up q
      | own od =>
        cases v with
        | ref a =>
          intro q
          cases od with
          | lst ds => obtain ⟨vs, h1, h2⟩ := q; exact ⟨vs, upH _ _ h1, h2.mono up⟩
          | dic ks ds => obtain ⟨kvs, h1, h2, h3⟩ := q; exact ⟨kvs, upH _ _ h1, h2, h3.mono up⟩
          | ins C dx ns ds => obtain ⟨fs, h1, h2, h3, h4⟩ := q; exact ⟨fs, upH _ _ h1, h2, h3.mono up, upH _ _ h4⟩
        | _ => exact fun q => q
  · show ((p :: fm.E) ++ owned σ ρ).Nodup
    rw [List.cons_append, List.nodup_cons]; exact ⟨n2, r.nd⟩
  · have ha' : a ∈ p :: (fm.E ++ owned σ ρ) := ha
    rcases List.mem_cons.mp ha' with e | e
    · subst e; exact ⟨⟨_, upd_same, ow⟩, gp⟩
    · exact r2.tr a e
  · have nb : b ≠ p := fun e => by subst e; rw [upd_same] at h; exact no _ _ _ (Option.some.inj h)
    have nd : dx ≠ p := fun e => by have := r2.ins b C dx fs h; subst e; rw [upd_same] at this; exact no2 _ (Option.some.inj this)
    have c := r2.cl b C dx fs h
    show dx ∈ p :: (fm.E ++ owned σ ρ) ↔ b ∈ p :: (fm.E ++ owned σ ρ)
    rw [List.mem_cons, List.mem_cons]
    exact ⟨fun z => .inr (c.mp (z.resolve_left nd)), fun z => .inr (c.mpr (z.resolve_left nb))⟩
  · have hc' : c ∈ p :: (fm.E ++ owned σ ρ) := hc
    rcases List.mem_cons.mp hc' with e | e
    · subst e; rw [upd_same] at h; exact absurd (Option.some.inj h) (no2 b)
    · obtain ⟨h1, h2⟩ := r2.co c b e h
      exact ⟨List.mem_cons_of_mem _ h1, h2⟩
theorem new_lst {fm : Fm} {H : Hp} {σ : St} {ρ : Env} (r : RS K fm H σ ρ) {p : Addr} (hp : H p = none) {vs : List V} {ds : List D} (h : Reps K (fm.hid σ ρ H) vs ds) : NewO K fm σ H ρ (upd H p (.lst vs)) ρ p (.lst ds) := by
  obtain ⟨r2, g2, n2⟩ := r.new (o := .lst vs) hp (fun _ _ _ z => nomatch z)
  have up : ∀ b o, fm.hid σ ρ H b = some o → hide (ownAs p (.lst ds) ++ (fm.E ++ owned σ ρ)) (upd H p (.lst vs)) b = some o := fun b o e => by
    obtain ⟨m, e⟩ := hide_some e
    have nb : b ≠ p := ne_of_none e hp
    have : b ∉ ownAs p (.lst ds) ++ (fm.E ++ owned σ ρ) := by
      rw [List.mem_append, not_or]; exact ⟨by simpa [ownAs] using nb, m⟩
    rw [hide_out this, upd_ne nb]; exact e
  exact ⟨⟨r2, g2⟩, r.newE hp trivial (fun _ _ _ z => nomatch z) (fun _ z => nomatch z), up, vs, upd_same, h.mono up⟩
def wLst (a : WA) : WO := fun ρ Q R => a ρ (fun ds ρ1 => ds.length ≤ LIM ∧ Q (.lst ds) ρ1) R
theorem do_lst {es : List Expr} {a : WA} {pos : Pos} (ha : DA X W es a) : DO X W (.List es pos) (wLst a) := by
  obtain ⟨t, p, l⟩ := ha.ex
  refine ⟨_, pe_lst p, fun fm H σ ρ Q R QV s q x k => l fm H σ ρ _ R _ s q x fun vs H1 ds ρ1 q1 g1 r1 => ⟨by rw [r1.length, ← lim]; exact q1.1, fun p hp => ?_⟩⟩
  exact k p _ _ ρ1 q1.2 ((new_lst g1.rs hp r1).of g1)

/-! calls of built-ins by values -/
def wCall (o : OL) (a : WA) : WE := fun ρ Q R => a ρ (fun ds ρ1 => o ds fun z => Q z ρ1) R
theorem le_cb {r : List V → Hp → VK → Prop} {o : OL} {t : TA} {a : WA} (ho : ClS K r o) (ha : LA K W t a) : LE K W (tCB r t) (wCall o a) := fun fm H σ ρ Q R QV s q x k =>
  ha fm H σ ρ _ R _ s q x fun v H1 d ρ1 q1 g1 r1 => ho _ H1 v d _ QV g1.rs.trk r1 q1 fun z dz H3 qz al rz => k z H3 dz ρ1 qz (g1.alc al) rz
theorem de_callB {x : Str} {p pos : Pos} {e : Expr} {es : List Expr} {id : String} {r : List V → Hp → VK → Prop} {o : OL} {a : WA} (hc : CallR X (.builtin id) r) (hs : ClS X.K r o) (hg : Gl X x) (hm : X.mg x = none) (hv : bootBuiltins x = some (.builtin id)) (ha : DA X W (e :: es) a)
    (hn : x ≠ "__name__" := by decide) (hdb : (x == ("__debug__" : Str)) = false := by decide)
    (he : starEach (e :: es) X.env = (false, eval e X.env) :: starEach es X.env := by rfl) (hpl : (backTo pos (starEach es X.env)).any (·.1) = false := by rfl) : DE X W (.Call (.Name x p) (e :: es) [] pos) (wCall o a) := by
  obtain ⟨t, pt, l⟩ := ha.ex
  exact ⟨_, pe_callB hc hg hm hv pt hn hdb he hpl, le_cb hs l⟩
theorem de_callTy {x : Str} {p pos : Pos} {e : Expr} {es : List Expr} {T : String} {r : List V → Hp → VK → Prop} {o : OL} {a : WA} (hc : CallR X (.type T) r) (hs : ClS X.K r o) (hg : Gl X x) (hm : X.mg x = none) (hv : bootBuiltins x = some (.type T)) (ha : DA X W (e :: es) a)
    (hn : x ≠ "__name__" := by decide) (hdb : (x == ("__debug__" : Str)) = false := by decide)
    (he : starEach (e :: es) X.env = (false, eval e X.env) :: starEach es X.env := by rfl) (hpl : (backTo pos (starEach es X.env)).any (·.1) = false := by rfl) : DE X W (.Call (.Name x p) (e :: es) [] pos) (wCall o a) := by
  obtain ⟨t, pt, l⟩ := ha.ex
  exact ⟨_, pe_callTy hc hg hm hv pt hn hdb he hpl, le_cb hs l⟩
/-- a built-in called on a slot's object, a scalar back -/
def wCallB (o : OL) (i : Nat) : WE := fun ρ Q _ => bor (ρ.at i) fun d => o [d] fun z => isScal z = true ∧ Q z ρ
theorem le_cbB {r : List V → Hp → VK → Prop} {o : OL} {i : Nat} (ho : ClS K r o) : LE K W (tCB r (tCons (tVar i) tNil)) (wCallB o i) := fun fm H σ ρ Q R QV s q x k => by
  obtain ⟨v, d, A', hv, q, tr, up, rp⟩ := s.bor q
  exact ⟨v, hv, ho A' H [v] [d] _ QV tr (.cons rp .nil) q fun z dz H3 qz al rz => k z H3 dz ρ qz.2 ((To.refl s).alc al) (rep_scal rz qz.1)⟩
theorem de_callBB {x y : Str} {p pos p' : Pos} {id : String} {r : List V → Hp → VK → Prop} {o : OL} (i : Nat) (hc : CallR X (.builtin id) r) (hs : ClS X.K r o) (hg : Gl X x) (hm : X.mg x = none) (hv : bootBuiltins x = some (.builtin id)) (ha : PE X (.Name y p') (tVar i))
    (hn : x ≠ "__name__" := by decide) (hdb : (x == ("__debug__" : Str)) = false := by decide)
    (he : starEach [.Name y p'] X.env = (false, eval (.Name y p') X.env) :: starEach [] X.env := by rfl) : DE X W (.Call (.Name x p) [.Name y p'] [] pos) (wCallB o i) :=
  ⟨_, pe_callB hc hg hm hv (pa_cons ha pa_nil he) hn hdb he rfl, le_cbB hs⟩

/-! ### tests: and, or, not, truth -/
def wAnd (t u : WT) : WT := fun ρ Q R => t ρ (fun b ρ1 => (b = true → u ρ1 Q R) ∧ (b = false → Q false ρ1)) R
def wOr (t u : WT) : WT := fun ρ Q R => t ρ (fun b ρ1 => (b = true → Q true ρ1) ∧ (b = false → u ρ1 Q R)) R
def wNot (t : WT) : WT := fun ρ Q R => t ρ (fun b ρ1 => Q (!b) ρ1) R
theorem lt_and {t u : TT} {wt wu : WT} (ht : LT K W t wt) (hu : LT K W u wu) : LT K W (tAnd t u) (wAnd wt wu) := fun fm H σ ρ Q R QV s q x k =>
  ht fm H σ ρ _ R _ s q x fun b H1 ρ1 q1 g1 => by
    cases b with
    | true => exact hu fm H1 σ ρ1 Q R QV g1.rs (q1.1 rfl) (x.to g1) fun c H2 ρ2 q2 g2 => k c H2 ρ2 q2 (g1.trans g2)
    | false => exact k false H1 ρ1 (q1.2 rfl) g1
theorem lt_or {t u : TT} {wt wu : WT} (ht : LT K W t wt) (hu : LT K W u wu) : LT K W (tOr t u) (wOr wt wu) := fun fm H σ ρ Q R QV s q x k =>
  ht fm H σ ρ _ R _ s q x fun b H1 ρ1 q1 g1 => by
    cases b with
    | true => exact k true H1 ρ1 (q1.1 rfl) g1
    | false => exact hu fm H1 σ ρ1 Q R QV g1.rs (q1.2 rfl) (x.to g1) fun c H2 ρ2 q2 g2 => k c H2 ρ2 q2 (g1.trans g2)
theorem lt_not {t : TT} {wt : WT} (ht : LT K W t wt) : LT K W (tNot t) (wNot wt) := fun fm H σ ρ Q R QV s q x k => ht fm H σ ρ _ R _ s q x fun b H1 ρ1 q1 g1 => k (!b) H1 ρ1 q1 g1
/-- and, or over any number of parts -/
structure DW (X : Cx) (W : WW) (e : Expr) (w : WT) : Prop where
  ex : ∃ t, PW X e t ∧ LT X.K W t w
theorem dw_and1 {a : Expr} {pos : Pos} {w : WT} (h : DT X W a w) : DW X W (.BoolOp .And [a] pos) w := by obtain ⟨t, p, l⟩ := h.ex; exact ⟨_, pw_and1 p, l⟩
theorem dw_or1 {a : Expr} {pos : Pos} {w : WT} (h : DT X W a w) : DW X W (.BoolOp .Or [a] pos) w := by obtain ⟨t, p, l⟩ := h.ex; exact ⟨_, pw_or1 p, l⟩
theorem dw_and {a b : Expr} {rest : List Expr} {pos : Pos} {w u : WT} (h : DT X W a w) (h' : DW X W (.BoolOp .And (b :: rest) pos) u) : DW X W (.BoolOp .And (a :: b :: rest) pos) (wAnd w u) := by
  obtain ⟨t, p, l⟩ := h.ex; obtain ⟨t', p', l'⟩ := h'.ex; exact ⟨_, pw_and p p', lt_and l l'⟩
theorem dw_or {a b : Expr} {rest : List Expr} {pos : Pos} {w u : WT} (h : DT X W a w) (h' : DW X W (.BoolOp .Or (b :: rest) pos) u) : DW X W (.BoolOp .Or (a :: b :: rest) pos) (wOr w u) := by
  obtain ⟨t, p, l⟩ := h.ex; obtain ⟨t', p', l'⟩ := h'.ex; exact ⟨_, pw_or p p', lt_or l l'⟩
theorem DW.dt {e : Expr} {w : WT} (h : DW X W e w) : DT X W e w := by obtain ⟨t, p, l⟩ := h.ex; exact ⟨_, p.pt, l⟩
theorem dt_not {a : Expr} {pos : Pos} {w : WT} (h : DT X W a w) : DT X W (.UnaryOp .Not a pos) (wNot w) := by obtain ⟨t, p, l⟩ := h.ex; exact ⟨_, pt_not p, lt_not l⟩
/-- as values -/
def wAndV (a b : WE) : WE := fun ρ Q R => a ρ (fun d ρ1 => blOf d fun c => (c = true → b ρ1 Q R) ∧ (c = false → Q (.bl false) ρ1)) R
def wOrV (a b : WE) : WE := fun ρ Q R => a ρ (fun d ρ1 => blOf d fun c => (c = true → Q (.bl true) ρ1) ∧ (c = false → b ρ1 Q R)) R
def wNotV (a : WE) : WE := fun ρ Q R => a ρ (fun d ρ1 => blOf d fun c => Q (.bl (!c)) ρ1) R
theorem de_one {op} {a : Expr} {pos : Pos} {w : WE} (h : DE X W a w) : DE X W (.BoolOp op [a] pos) w := by obtain ⟨t, p, l⟩ := h.ex; exact ⟨_, pe_one p, l⟩
theorem de_and {a b : Expr} {rest : List Expr} {pos : Pos} {w u : WE} (h : DE X W a w) (h' : DE X W (.BoolOp .And (b :: rest) pos) u) : DE X W (.BoolOp .And (a :: b :: rest) pos) (wAndV w u) := by
  obtain ⟨t, p, l⟩ := h.ex; obtain ⟨t', p', l'⟩ := h'.ex
  refine ⟨_, pe_and p p', fun fm H σ ρ Q R QV s q x k => l fm H σ ρ _ R _ s q x fun v H1 d ρ1 q1 g1 r1 => ?_⟩
  cases d <;> first | exact q1.elim | skip
  rename_i c
  cases r1
  refine ⟨c, rfl, ?_⟩
  cases c with
  | true => exact l' fm H1 σ ρ1 Q R QV g1.rs (q1.1 rfl) (x.to g1) fun c H2 d2 ρ2 q2 g2 => k c H2 d2 ρ2 q2 (g1.trans g2)
  | false => exact k _ H1 _ ρ1 (q1.2 rfl) g1 (.bl false)
theorem de_or {a b : Expr} {rest : List Expr} {pos : Pos} {w u : WE} (h : DE X W a w) (h' : DE X W (.BoolOp .Or (b :: rest) pos) u) : DE X W (.BoolOp .Or (a :: b :: rest) pos) (wOrV w u) := by
  obtain ⟨t, p, l⟩ := h.ex; obtain ⟨t', p', l'⟩ := h'.ex
  refine ⟨_, pe_or p p', fun fm H σ ρ Q R QV s q x k => l fm H σ ρ _ R _ s q x fun v H1 d ρ1 q1 g1 r1 => ?_⟩
  cases d <;> first | exact q1.elim | skip
  rename_i c
  cases r1
  refine ⟨c, rfl, ?_⟩
  cases c with
  | false => exact l' fm H1 σ ρ1 Q R QV g1.rs (q1.2 rfl) (x.to g1) fun c H2 d2 ρ2 q2 g2 => k c H2 d2 ρ2 q2 (g1.trans g2)
  | true => exact k _ H1 _ ρ1 (q1.1 rfl) g1 (.bl true)
theorem de_not {a : Expr} {pos : Pos} {w : WE} (h : DE X W a w) : DE X W (.UnaryOp .Not a pos) (wNotV w) := by
  obtain ⟨t, p, l⟩ := h.ex
  refine ⟨_, pe_not p, fun fm H σ ρ Q R QV s q x k => l fm H σ ρ _ R _ s q x fun v H1 d ρ1 q1 g1 r1 => ?_⟩
  cases d <;> first | exact q1.elim | skip
  rename_i c
  cases r1
  exact ⟨c, rfl, k _ H1 _ ρ1 q1 g1 (.bl _)⟩
def wIf (t : WT) (a b : WE) : WE := fun ρ Q R => t ρ (fun c ρ1 => (c = true → a ρ1 Q R) ∧ (c = false → b ρ1 Q R)) R
theorem de_if {c a b : Expr} {pos : Pos} {t : WT} {wa wb : WE} (h : DT X W c t) (ha : DE X W a wa) (hb : DE X W b wb) : DE X W (.IfExp c a b pos) (wIf t wa wb) := by
  obtain ⟨tc, pc, lc⟩ := h.ex; obtain ⟨ta, pa, la⟩ := ha.ex; obtain ⟨tb, pb, lb⟩ := hb.ex
  refine ⟨_, pe_ifExp pc pa pb, fun fm H σ ρ Q R QV s q x k => lc fm H σ ρ _ R _ s q x fun b H1 ρ1 q1 g1 => ?_⟩
  cases b with
  | true => exact la fm H1 σ ρ1 Q R QV g1.rs (q1.1 rfl) (x.to g1) fun c H2 d2 ρ2 q2 g2 => k c H2 d2 ρ2 q2 (g1.trans g2)
  | false => exact lb fm H1 σ ρ1 Q R QV g1.rs (q1.2 rfl) (x.to g1) fun c H2 d2 ρ2 q2 g2 => k c H2 d2 ρ2 q2 (g1.trans g2)
/-- a value's truth -/
def truD (d : D) (k : Bool → Prop) : Prop := match d with
  | .non => k false | .bl b => k b | .int i => k (i != 0) | .str y => y.length ≤ LIM ∧ k ((y.length : Int) != 0)
  | .lst xs => k (!xs.isEmpty) | .tup xs => k (!xs.isEmpty) | _ => False
theorem tru_of {A : List Addr} {H : Hp} {v : V} {d : D} {k : Bool → Prop} (r : Rep K (hide A H) v d) (h : truD d k) : ∃ b, TruV K v H b ∧ k b := by
  cases r with
  | non => exact ⟨false, rfl, h⟩
  | bl b => exact ⟨b, rfl, h⟩
  | int i => exact ⟨_, rfl, h⟩
  | str x => exact ⟨_, ⟨by rw [← lim]; exact h.1, rfl⟩, h.2⟩
  | raw v e => exact h.elim
  | @lst a vs ds e rr =>
    refine ⟨!vs.isEmpty, .inl ⟨vs, .inl (rd_mono hid_le e), rfl⟩, ?_⟩
    have : vs.isEmpty = ds.isEmpty := by have := rr.length; cases vs <;> cases ds <;> simp_all
    rw [this]; exact h
  | @tup a vs ds e rr =>
    refine ⟨!vs.isEmpty, .inr (.inl ⟨vs, sqT_mono hid_le e, rfl⟩), ?_⟩
    have : vs.isEmpty = ds.isEmpty := by have := rr.length; cases vs <;> cases ds <;> simp_all
    rw [this]; exact h
  | dic e rr => exact h.elim
  | obj e rr => exact h.elim
  | kls e rr => exact h.elim
  | excN => exact h.elim
  | exc e rr => exact h.elim
end
end DL

set_option Elab.async false
set_option linter.all false
set_option maxRecDepth 100000
namespace DL
open PySem L2

section
variable {X : Cx} {W : WW} {K : PySem.W.Frag}
/-! ### truth of a value, of a slot's object -/
def wTru (a : WE) : WT := fun ρ Q R => a ρ (fun d ρ1 => truD d fun b => Q b ρ1) R
theorem dt_tru {a : Expr} {w : WE} (h : DE X W a w) (he : ∀ whole, isTrue a X.env whole = (do let v ← whole; standAt a.pos; holding [v] (truthy v))) : DT X W a (wTru w) := by
  obtain ⟨t, p, l⟩ := h.ex
  refine ⟨_, pt_truth p he, fun fm H σ ρ Q R QV s q x k => l fm H σ ρ _ R _ s q x fun v H1 d ρ1 q1 g1 r1 => ?_⟩
  obtain ⟨b, tb, kb⟩ := tru_of r1 q1
  exact ⟨b, tb, k b H1 ρ1 kb g1⟩
def wTruB (i : Nat) : WT := fun ρ Q _ => bor (ρ.at i) fun d => truD d fun b => Q b ρ
theorem dt_truB {a : Expr} (i : Nat) (h : PE X a (tVar i)) (he : ∀ whole, isTrue a X.env whole = (do let v ← whole; standAt a.pos; holding [v] (truthy v))) : DT X W a (wTruB i) := by
  refine ⟨_, pt_truth h he, fun fm H σ ρ Q R QV s q x k => ?_⟩
  obtain ⟨v, d, A', hv, q, tr, up, rp⟩ := s.bor q
  obtain ⟨b, tb, kb⟩ := tru_of rp q
  exact ⟨v, hv, b, tb, k b H ρ kb (.refl s)⟩
/-- a bool as a test -/
theorem dt_val {a : Expr} {w : WE} (h : DE X W a w) (he : ∀ whole, isTrue a X.env whole = (do let v ← whole; standAt a.pos; holding [v] (truthy v))) : DT X W a (wTru w) := dt_tru h he

/-! ### items -/
def ixD : O2 := fun d e k => match d, e with
  | .lst xs, .int i => ∃ z, atI xs i = some z ∧ k z
  | .tup xs, .int i => ∃ z, atI xs i = some z ∧ k z
  | .str x, .int i => x.length ≤ LIM ∧ ∃ c, atI x.cps.toList i = some c ∧ k (.str ⟨#[c]⟩)
  | .kls xs, .int i => ∃ z, atI xs i = some z ∧ k z
  | _, _ => False
theorem Reps.atI {H : Hp} {vs : List V} {ds : List D} (h : Reps K H vs ds) {i : Int} {z : D} (e : L2.atI ds i = some z) : ∃ v, L2.atI vs i = some v ∧ Rep K H v z := by
  unfold L2.atI at e ⊢
  rw [h.length]
  cases q : ixN ds.length i with
  | none => rw [q] at e; cases e
  | some j => rw [q] at e; exact h.get e
theorem ixs : OpS K (rIx K) ixD := fun A H x y d e k Q tr rx ry q f => by
  cases d <;> cases e <;> first | exact q.elim | skip
  · rename_i z i
    cases rx; cases ry
    obtain ⟨h1, c, h2, h3⟩ := q
    exact .inr (.inr ⟨z, i, c, rfl, rfl, by rw [← lim]; exact h1, h2, f _ _ H h3 (.refl H) (.str _)⟩)
  · rename_i xs i
    cases ry
    obtain ⟨a, vs, rfl, h, rr⟩ := rx.lst_inv
    obtain ⟨z, hz, kz⟩ := q
    obtain ⟨v, hv, rv⟩ := rr.atI hz
    exact .inl ⟨a, vs, i, v, rfl, rfl, .inl (rd_mono hid_le h), hv, f _ _ H kz (.refl H) rv⟩
  · rename_i xs i
    cases ry
    obtain ⟨a, vs, rfl, h, rr⟩ := rx.tup_inv
    obtain ⟨z, hz, kz⟩ := q
    obtain ⟨v, hv, rv⟩ := rr.atI hz
    exact .inr (.inl ⟨a, vs, i, v, rfl, rfl, sqT_mono hid_le h, hv, f _ _ H kz (.refl H) rv⟩)
  · rename_i xs i
    cases ry
    cases rx with
    | kls h rr =>
      obtain ⟨z, hz, kz⟩ := q
      obtain ⟨v, hv, rv⟩ := rr.atI hz
      exact .inl ⟨_, _, i, v, rfl, rfl, .inr h, hv, f _ _ H kz (.refl H) rv⟩
theorem de_ix {a b : Expr} {wa wb : WE} {pos : Pos} (ha : DE X W a wa) (hb : DE X W b wb) (hs : PlainIx b) : DE X W (.Subscript a b pos) (w2 ixD wa wb) := by
  obtain ⟨ta, pa, la⟩ := ha.ex
  obtain ⟨tb, pb, lb⟩ := hb.ex
  exact ⟨_, pe_ix ix_seq pa pb hs, le_2 ixs la lb⟩
/-- an item of a slot's own list -/
def lstOf (s : Sl) (k : List D → Prop) : Prop := match s with | .own (.lst xs) => k xs | .v (.lst xs) => k xs | .v (.tup xs) => k xs | _ => False
def intOf (d : D) (k : Int → Prop) : Prop := match d with | .int i => k i | _ => False
def wIxB (i : Nat) (b : WE) : WE := fun ρ Q R => lstOf (ρ.at i) (fun _ => True) ∧ b ρ (fun e ρ1 => intOf e fun j => lstOf (ρ1.at i) fun xs => ∃ z, atI xs j = some z ∧ Q z ρ1) R
/-- the list that stands in a slot -/
theorem RS.lstOf {fm : Fm} {H : Hp} {σ : St} {ρ : Env} (r : RS K fm H σ ρ) {i : Nat} {k : List D → Prop} (h : lstOf (ρ.at i) k) :
    ∃ a vs ds, σ[i]? = some (some (.ref a)) ∧ (SqL K H a vs ∨ SqT K H a vs) ∧ Reps K (fm.hid σ ρ H) vs ds ∧ k ds := by
  have s := r.sl i
  cases e : ρ.at i with
  | no => rw [e] at h; exact h.elim
  | v d =>
    rw [e] at h s
    cases e2 : σ.getD i none with
    | none => rw [e2] at s; exact s.elim
    | some v =>
      rw [e2] at s
      cases d <;> first | exact h.elim | skip
      · obtain ⟨a, vs, rfl, h1, h2⟩ := Rep.lst_inv s
        exact ⟨a, vs, _, getD_some e2, .inl (.inl (rd_mono hid_le h1)), h2, h⟩
      · obtain ⟨a, vs, rfl, h1, h2⟩ := Rep.tup_inv s
        exact ⟨a, vs, _, getD_some e2, .inr (sqT_mono hid_le h1), h2, h⟩
  | own o =>
    rw [e] at h s
    cases o <;> first | exact h.elim | skip
    cases e2 : σ.getD i none with
    | none => rw [e2] at s; exact s.elim
    | some v =>
      rw [e2] at s
      cases v <;> first | exact s.elim | skip
      obtain ⟨vs, h1, h2⟩ := s
      exact ⟨_, vs, _, getD_some e2, .inl (.inl (.inl h1)), h2, h⟩
theorem de_ixB {a b : Expr} {wb : WE} {pos : Pos} (i : Nat) (ha : PE X a (tVar i)) (hb : DE X W b wb) (hs : PlainIx b) : DE X W (.Subscript a b pos) (wIxB i wb) := by
  obtain ⟨tb, pb, lb⟩ := hb.ex
  refine ⟨_, pe_ix ix_seq ha pb hs, fun fm H σ ρ Q R QV s q x k => ?_⟩
  obtain ⟨q0, q⟩ := q
  obtain ⟨a', _, _, hv, _, _, _⟩ := s.lstOf q0
  refine ⟨_, hv, lb fm H σ ρ _ R _ s q x fun y H1 d ρ1 q1 g1 r1 => ?_⟩
  cases d <;> first | exact q1.elim | skip
  obtain ⟨a2, vs, ds, h1, h2, h3, z, h4, h5⟩ := g1.rs.lstOf q1
  rw [hv] at h1; cases h1
  cases r1
  obtain ⟨u, hu, ru⟩ := h3.atI h4
  rcases h2 with h2 | h2
  · exact .inl ⟨a', vs, _, u, rfl, rfl, h2, hu, k u H1 z ρ1 h5 g1 ru⟩
  · exact .inr (.inl ⟨a', vs, _, u, rfl, rfl, h2, hu, k u H1 z ρ1 h5 g1 ru⟩)

/-! ### slices -/
abbrev WP := Env → (Option Int → Env → Prop) → KR → Prop
def LP (K : PySem.W.Frag) (W : WW) (t : TO) (w : WP) : Prop :=
  ∀ (fm : Fm) (H : Hp) (σ : St) (ρ : Env) (Q : Option Int → Env → Prop) (R : KR) (QV : Option Int → Hp → Prop), RS K fm H σ ρ → w ρ Q R → XOk K W fm σ H ρ R →
    (∀ o H' ρ', Q o ρ' → To K fm σ H ρ H' ρ' → QV o H') → t σ H QV
structure DP (X : Cx) (W : WW) (e : Option Expr) (w : WP) : Prop where
  ex : ∃ t, PO X e t ∧ LP X.K W t w
def wpNone : WP := fun ρ Q _ => Q none ρ
def wpSome (a : WE) : WP := fun ρ Q R => a ρ (fun d ρ1 => intOf d fun i => Q (some i) ρ1) R
theorem dp_none : DP X W none wpNone := ⟨_, po_none, fun fm H σ ρ Q R QV s q x k => k none H ρ q (.refl s)⟩
theorem dp_some {e : Expr} {a : WE} (h : DE X W e a) : DP X W (some e) (wpSome a) := by
  obtain ⟨t, p, l⟩ := h.ex
  refine ⟨_, po_some p, fun fm H σ ρ Q R QV s q x k => l fm H σ ρ _ R _ s q x fun v H1 d ρ1 q1 g1 r1 => ?_⟩
  cases d <;> first | exact q1.elim | skip
  cases r1
  exact ⟨_, rfl, k _ H1 ρ1 q1 g1⟩
def cut {α : Type} (xs : List α) (lo hi : Option Int) : List α := (xs.drop (HT.sIx xs.length 0 lo)).take (HT.sIx xs.length xs.length hi - HT.sIx xs.length 0 lo)
theorem Reps.cut {H : Hp} {vs : List V} {ds : List D} (h : Reps K H vs ds) (lo hi : Option Int) : Reps K H (cutV vs lo hi) (DL.cut ds lo hi) := by
  unfold cutV DL.cut
  rw [h.length]
  exact (h.drop _).take _
/-- a list's slice: a new list -/
def lstD (d : D) (k : List D → Prop) : Prop := match d with | .lst xs => k xs | _ => False
def wSl (a : WE) (lo hi : WP) : WO := fun ρ Q R => a ρ (fun d ρ1 => lo ρ1 (fun l ρ2 => hi ρ2 (fun h ρ3 => lstD d fun xs => Q (.lst (cut xs l h)) ρ3) R) R) R
theorem do_sl {e : Expr} {lo hi : Option Expr} {p2 pos : Pos} {a : WE} {l h : WP} (ha : DE X W e a) (hl : DP X W lo l) (hh : DP X W hi h) : DO X W (.Subscript e (.Slice lo hi none p2) pos) (wSl a l h) := by
  obtain ⟨ta, pa, la⟩ := ha.ex; obtain ⟨tl, pl, ll⟩ := hl.ex; obtain ⟨th, ph, lh⟩ := hh.ex
  refine ⟨_, pe_slice sl_list pa pl ph, fun fm H σ ρ Q R QV s q x k => la fm H σ ρ _ R _ s q x fun v H1 d ρ1 q1 g1 r1 => ll fm H1 σ ρ1 _ R _ g1.rs q1 (x.to g1) fun o1 H2 ρ2 q2 g2 =>
    lh fm H2 σ ρ2 _ R _ g2.rs q2 (x.to (g1.trans g2)) fun o2 H3 ρ3 q3 g3 => ?_⟩
  cases d <;> first | exact q3.elim | skip
  obtain ⟨p, vs, rfl, h1, h2⟩ := ((g2.trans g3).go.rep r1).lst_inv
  refine ⟨p, vs, rfl, .inl (rd_mono hid_le h1), fun p hp => ?_⟩
  exact k p _ _ ρ3 q3 ((new_lst g3.rs hp (h2.cut o1 o2)).of ((g1.trans g2).trans g3))
/-- .. of a slot's own list -/
def wSlB (i : Nat) (lo hi : WP) : WO := fun ρ Q R => lstOf (ρ.at i) (fun _ => True) ∧ lo ρ (fun l ρ2 => hi ρ2 (fun h ρ3 => match ρ3.at i with | .own (.lst xs) => Q (.lst (cut xs l h)) ρ3 | .v (.lst xs) => Q (.lst (cut xs l h)) ρ3 | _ => False) R) R
theorem do_slB {e : Expr} {lo hi : Option Expr} {p2 pos : Pos} {l h : WP} (i : Nat) (ha : PE X e (tVar i)) (hl : DP X W lo l) (hh : DP X W hi h) : DO X W (.Subscript e (.Slice lo hi none p2) pos) (wSlB i l h) := by
  obtain ⟨tl, pl, ll⟩ := hl.ex; obtain ⟨th, ph, lh⟩ := hh.ex
  refine ⟨_, pe_slice sl_list ha pl ph, fun fm H σ ρ Q R QV s q x k => ?_⟩
  obtain ⟨q0, q⟩ := q
  obtain ⟨a', _, _, hv, _, _, _⟩ := s.lstOf q0
  refine ⟨_, hv, ll fm H σ ρ _ R _ s q x fun o1 H2 ρ2 q2 g2 => lh fm H2 σ ρ2 _ R _ g2.rs q2 (x.to g2) fun o2 H3 ρ3 q3 g3 => ?_⟩
  have fin : ∀ xs, (ρ3.at i = .own (.lst xs) ∨ ρ3.at i = .v (.lst xs)) → Q (.lst (DL.cut xs o1 o2)) ρ3 → rSlL X.K (.ref a') o1 o2 H3 QV := fun xs e qq => by
    have ss := g3.rs.sl i
    have e0 : σ.getD i none = some (.ref a') := by rw [List.getD_eq_getElem?_getD, hv]; rfl
    rw [e0] at ss
    obtain ⟨vs, h1, h2⟩ : ∃ vs, Rd H3 a' (.lst vs) ∧ Reps X.K (fm.hid σ ρ3 H3) vs xs := by
      rcases e with e | e
      · rw [e] at ss; obtain ⟨vs, h1, h2⟩ := ss; exact ⟨vs, .inl h1, h2⟩
      · rw [e] at ss; obtain ⟨a2, vs, e2, h1, h2⟩ := Rep.lst_inv ss; cases e2; exact ⟨vs, rd_mono hid_le h1, h2⟩
    refine ⟨a', vs, rfl, .inl h1, fun p hp => ?_⟩
    exact k p _ _ ρ3 qq ((new_lst g3.rs hp (h2.cut o1 o2)).of (g2.trans g3))
  cases e : ρ3.at i with
  | no => rw [e] at q3; exact q3.elim
  | v d => cases d <;> (rw [e] at q3; first | exact q3.elim | exact fin _ (.inr e) q3)
  | own o => cases o <;> (rw [e] at q3; first | exact q3.elim | exact fin _ (.inl e) q3)
/-- a tuple's slice -/
def tupD (d : D) (k : List D → Prop) : Prop := match d with | .tup xs => k xs | _ => False
def wSlT (a : WE) (lo hi : WP) : WE := fun ρ Q R => a ρ (fun d ρ1 => lo ρ1 (fun l ρ2 => hi ρ2 (fun h ρ3 => tupD d fun xs => Q (.tup (cut xs l h)) ρ3) R) R) R
theorem cut_whole {α : Type} {xs : List α} {lo hi : Option Int} (h : HT.sIx xs.length 0 lo = 0 ∧ HT.sIx xs.length xs.length hi = xs.length) : cut xs lo hi = xs := by
  unfold cut; rw [h.1, h.2]; simp
theorem de_slT {e : Expr} {lo hi : Option Expr} {p2 pos : Pos} {a : WE} {l h : WP} (ha : DE X W e a) (hl : DP X W lo l) (hh : DP X W hi h) : DE X W (.Subscript e (.Slice lo hi none p2) pos) (wSlT a l h) := by
  obtain ⟨ta, pa, la⟩ := ha.ex; obtain ⟨tl, pl, ll⟩ := hl.ex; obtain ⟨th, ph, lh⟩ := hh.ex
  refine ⟨_, pe_slice sl_tupA pa pl ph, fun fm H σ ρ Q R QV s q x k => la fm H σ ρ _ R _ s q x fun v H1 d ρ1 q1 g1 r1 => ll fm H1 σ ρ1 _ R _ g1.rs q1 (x.to g1) fun o1 H2 ρ2 q2 g2 =>
    lh fm H2 σ ρ2 _ R _ g2.rs q2 (x.to (g1.trans g2)) fun o2 H3 ρ3 q3 g3 => ?_⟩
  cases d <;> first | exact q3.elim | skip
  have rr := (g2.trans g3).go.rep r1
  obtain ⟨p, vs, rfl, h1, h2⟩ := rr.tup_inv
  refine ⟨p, vs, rfl, sqT_mono hid_le h1, fun hw => ?_, fun hw p hp => ?_⟩
  · rw [h2.length] at hw
    refine k _ H3 _ ρ3 q3 ((g1.trans g2).trans g3) ?_
    rw [cut_whole hw]; exact rr
  · obtain ⟨r2, g2', n2⟩ := g3.rs.new (o := .tup (cutV vs o1 o2)) hp (fun _ _ _ z => nomatch z)
    exact k _ _ _ ρ3 q3 (((g1.trans g2).trans g3).trans ⟨r2, g2'⟩) (.tup (.inl (.inl ((hide_out n2).trans upd_same))) (g2'.reps (h2.cut o1 o2)))

/-! ### + and * -/
def rCatR (K : PySem.W.Frag) : R2 := fun x y H Q => ∃ l b xs zs, x = .ref l ∧ y = .ref b ∧ Rd H l (.lst xs) ∧ Rd H b (.lst zs) ∧ xs.length + zs.length ≤ sizeLine ∧ ∀ p, H p = none → Q (.ref p) (upd H p (.lst (xs ++ zs)))
theorem op_catR : OpR X (binaryOp .Add) (rCatR X.K) := by
  intro pins s σ H x y v u Q I rx ry h
  obtain ⟨l, b, xs, zs, rfl, rfl, hH, hB, hz, q⟩ := h
  cases rx
  cases ry
  obtain ⟨z, its, n, r, e⟩ := hH.ok I.hok
  obtain ⟨z2, its2, n2, r2, e2⟩ := hB.ok I.hok
  have hl := r.length
  have hl2 := r2.length
  refine PySem.P.add_list e e2 ?_ (by rw [List.size_toArray, List.size_toArray]; omega)
  have ea : its.toArray ++ its2.toArray = (its ++ its2).toArray := by simp
  rw [ea]
  exact ⟨.ref _, _, I.lnew (t' := s.toks) (r.append r2) (by rw [List.length_append]; omega), rfl, q _ I.fresh⟩
/-- + of two lists: a new one -/
def wCat (a b : WE) : WO := fun ρ Q R => a ρ (fun d ρ1 => b ρ1 (fun e ρ2 => lstD d fun xs => lstD e fun ys => xs.length + ys.length ≤ LIM ∧ Q (.lst (xs ++ ys)) ρ2) R) R
theorem do_cat {a b : Expr} {wa wb : WE} {pos : Pos} (ha : DE X W a wa) (hb : DE X W b wb) : DO X W (.BinOp a .Add b pos) (wCat wa wb) := by
  obtain ⟨ta, pa, la⟩ := ha.ex; obtain ⟨tb, pb, lb⟩ := hb.ex
  refine ⟨_, pe_op op_catR pa pb, fun fm H σ ρ Q R QV s q x k => la fm H σ ρ _ R _ s q x fun v H1 d ρ1 q1 g1 r1 => lb fm H1 σ ρ1 _ R _ g1.rs q1 (x.to g1) fun u H2 e ρ2 q2 g2 r2 => ?_⟩
  cases d <;> first | exact q2.elim | skip
  cases e <;> first | exact q2.elim | skip
  obtain ⟨p, vs, rfl, h1, h2⟩ := (g2.go.rep r1).lst_inv
  obtain ⟨p', vs', rfl, h1', h2'⟩ := r2.lst_inv
  refine ⟨p, p', vs, vs', rfl, rfl, rd_mono hid_le h1, rd_mono hid_le h1', by rw [h2.length, h2'.length, ← lim]; exact q2.1, fun p hp => ?_⟩
  exact k p _ _ ρ2 q2.2 ((new_lst g2.rs hp (h2.append h2')).of (g1.trans g2))
/-- + of anything -/
def addD : O2 := fun d e k => match d, e with
  | .int i, .int j => k (.int (i + j))
  | .str x, .str y => x.length + y.length ≤ LIM ∧ k (.str (x ++ y))
  | .tup xs, .tup ys => xs.length + ys.length ≤ LIM ∧ k (.tup (xs ++ ys))
  | .lst xs, .lst ys => xs.length + ys.length ≤ LIM ∧ k (.lst (xs ++ ys))
  | _, _ => False
def rAddA (K : PySem.W.Frag) : R2 := fun x y H Q => (rI0 fun i j => .int (i + j)) x y H Q ∨ ((∃ i j, x = .str i ∧ y = .str j ∧ i.length + j.length ≤ sizeLine ∧ Q (.str (i ++ j)) H) ∨ (rCatA K x y H Q ∨ rCatR K x y H Q))
theorem op_addA : OpR X (binaryOp .Add) (rAddA X.K) := op_add.or (op_add_str.or (op_catA.or op_catR))
theorem rep_up {A : List Addr} {H : Hp} {p : Addr} {o : HO} (hp : H p = none) {v : V} {d : D} (h : Rep K (hide A H) v d) : Rep K (hide A (upd H p o)) v d := h.mono fun b u e => by
  obtain ⟨m, e⟩ := hide_some e
  rw [hide_out m, upd_ne (ne_of_none e hp)]; exact e
theorem reps_up {A : List Addr} {H : Hp} {p : Addr} {o : HO} (hp : H p = none) {v : List V} {d : List D} (h : Reps K (hide A H) v d) : Reps K (hide A (upd H p o)) v d := h.mono fun b u e => by
  obtain ⟨m, e⟩ := hide_some e
  rw [hide_out m, upd_ne (ne_of_none e hp)]; exact e
theorem add_s : OpS K (rAddA K) addD := fun A H x y d e k Q tr rx ry q f => by
  have nA : ∀ p, H p = none → p ∉ A := fun p hp z => tr p z hp
  cases d <;> cases e <;> first | exact q.elim | skip
  · cases rx; cases ry; exact .inl ⟨_, _, rfl, rfl, f _ _ H q (.refl H) (.int _)⟩
  · cases rx; cases ry; exact .inr (.inl ⟨_, _, rfl, rfl, by rw [← lim]; exact q.1, f _ _ H q.2 (.refl H) (.str _)⟩)
  · obtain ⟨p, vs, rfl, h1, h2⟩ := rx.lst_inv
    obtain ⟨p', vs', rfl, h1', h2'⟩ := ry.lst_inv
    refine .inr (.inr (.inr ⟨p, p', vs, vs', rfl, rfl, rd_mono hid_le h1, rd_mono hid_le h1', by rw [h2.length, h2'.length, ← lim]; exact q.1, fun p hp => ?_⟩))
    exact f _ _ _ q.2 (.one hp (fun _ _ _ z => nomatch z)) (.lst (.inl (by rw [hide_out (nA p hp)]; exact upd_same)) (reps_up hp (h2.append h2')))
  · obtain ⟨p, vs, rfl, h1, h2⟩ := rx.tup_inv
    obtain ⟨p', vs', rfl, h1', h2'⟩ := ry.tup_inv
    refine .inr (.inr (.inl ⟨p, p', vs, vs', rfl, rfl, sqT_mono hid_le h1, sqT_mono hid_le h1', by rw [h2.length, h2'.length, ← lim]; exact q.1, fun e => ?_, fun _ e => ?_, fun _ _ p hp => ?_⟩))
    · subst e; cases h2; exact f _ _ H q.2 (.refl H) ry
    · subst e; cases h2'; exact f _ _ H q.2 (.refl H) (by rw [List.append_nil]; exact rx)
    · exact f _ _ _ q.2 (.one hp (fun _ _ _ z => nomatch z)) (.tup (.inl (.inl (by rw [hide_out (nA p hp)]; exact upd_same))) (reps_up hp (h2.append h2')))
theorem de_add {a b : Expr} {wa wb : WE} {pos : Pos} (ha : DE X W a wa) (hb : DE X W b wb) : DE X W (.BinOp a .Add b pos) (w2 addD wa wb) := de_op op_addA add_s ha hb
theorem de_sub {a b : Expr} {wa wb : WE} {pos : Pos} (ha : DE X W a wa) (hb : DE X W b wb) : DE X W (.BinOp a .Sub b pos) (w2 (o2I0 fun i j => .int (i - j)) wa wb) := de_op op_sub (ops_I0 fun _ _ _ => .int _) ha hb
/-- * -/
def MulOk (i j : Int) : Prop := CMul i j ∨ CMulW i j
def rMulA (K : PySem.W.Frag) : R2 := fun x y H Q => (rI CMul fun i j => .int (i * j)) x y H Q ∨ ((rI CMulW fun i j => .int (i * j)) x y H Q ∨ (∃ l k xs, x = .ref l ∧ y = .int k ∧ Rd H l (.lst xs) ∧ -(2 ^ 63) ≤ k ∧ k < 2 ^ 63 ∧ xs.length * k.toNat ≤ sizeLine ∧
  ∀ p, H p = none → Q (.ref p) (upd H p (.lst (List.replicate k.toNat xs).flatten))))
theorem op_repR : OpR X (binaryOp .Mult) (fun x y H Q => ∃ l k xs, x = .ref l ∧ y = .int k ∧ Rd H l (.lst xs) ∧ -(2 ^ 63) ≤ k ∧ k < 2 ^ 63 ∧ xs.length * k.toNat ≤ sizeLine ∧
  ∀ p, H p = none → Q (.ref p) (upd H p (.lst (List.replicate k.toNat xs).flatten))) := by
  intro pins s σ H x y v u Q I rx ry h
  obtain ⟨l, k, xs, rfl, rfl, hH, h1, h2, hz, q⟩ := h
  rcases hH with hH | ⟨o, hH⟩
  · exact op_rep pins s σ H _ _ v u Q I rx ry ⟨l, k, xs, rfl, rfl, hH, h1, h2, hz, q⟩
  · cases rx
    obtain ⟨t, rfl⟩ := ry
    obtain ⟨z, its, n, r, e⟩ := (Rd.ok (.inr ⟨o, hH⟩) I.hok : ObjOk X.prog X.w H s.heap l (.lst xs))
    have hl := r.length
    have hlen : its.toArray.size * k.toNat ≤ sizeLine := by rw [List.size_toArray, ← hl]; exact hz
    have hcap : ¬ its.toArray.size * k.toNat > (2 ^ 63 - 1) / 8 := by
      have : (sizeLine : Nat) ≤ (2 ^ 63 - 1) / 8 := by decide
      omega
    have hfit : ¬ (!Builtin.List.listFitsIndex k) = true := by
      rw [fitsIndex_both h1 h2]
      exact Bool.false_ne_true
    have hlong : ¬ Builtin.List.listTooLong (its.toArray.size * k.toNat) = true := by
      rw [notLongL hlen]
      exact Bool.false_ne_true
    have hnew : List.foldl (fun x1 x2 => x1 ++ x2) #[] (List.replicate (if its.toArray.isEmpty = true then 0 else k.toNat) its.toArray) = (List.replicate k.toNat its).flatten.toArray := by
      have f0 : ∀ m : Nat, List.foldl (fun x1 x2 => x1 ++ x2) #[] (List.replicate m its.toArray) = (List.replicate m its).flatten.toArray := fun m => by
        have := foldl_rep its m []
        rw [List.nil_append] at this
        exact this
      rw [f0]
      cases its with
      | nil => simp
      | cons a r' => rw [if_neg (by simp)]
    refine PySem.wpAny_binaryOp_repeat_ref (T := "list") (U := "int") (by decide) ⟨_, e, rfl⟩ (fun s' => typeIs_int s' k t) PySem.noFill_list_mul PySem.F.fills_int_mul PySem.F.slot_int_rmul PySem.repeat_list PySem.F.slot_int_index.lookup
      (call_meets PySem.F.slot_int_rmul (typeIs_int s k t) PySem.F.entry_int_rmul (PySem.F.args_int_rmul_2 _ _) (int___rmul___int_list k t l its.toArray n)
        ⟨e, rfl, ⟨_, e, rfl⟩, call_meets PySem.F.slot_list_mul ⟨_, e, rfl⟩ PySem.F.entry_list_mul (PySem.F.args_list_mul_2 _ _) (AutoListH.list___mul___list_int_3 l its.toArray n k t hfit hcap hlong) ⟨e, ?_⟩⟩)
    rw [hnew]
    exact ⟨.ref _, _, I.lnew (t' := s.toks) (r.rep k.toNat) (by rw [PyProof.Rows.lm_len_rep_flat, Nat.mul_comm]; exact hz), rfl, q _ I.fresh⟩
theorem op_mulA : OpR X (binaryOp .Mult) (rMulA X.K) := op_mul.or (op_mulW.or op_repR)
def repL {α : Type} (k : Int) (xs : List α) : List α := (List.replicate k.toNat xs).flatten
def mulD : O2 := fun d e k => match d, e with
  | .int i, .int j => MulOk i j ∧ k (.int (i * j))
  | .lst xs, .int j => (-(2 ^ 63) ≤ j ∧ j < 2 ^ 63 ∧ xs.length * j.toNat ≤ LIM) ∧ k (.lst (repL j xs))
  | _, _ => False
theorem mul_s : OpS K (rMulA K) mulD := fun A H x y d e k Q tr rx ry q f => by
  have nA : ∀ p, H p = none → p ∉ A := fun p hp z => tr p z hp
  cases d <;> cases e <;> first | exact q.elim | skip
  · cases rx; cases ry
    rcases q.1 with h | h
    · exact .inl ⟨_, _, rfl, rfl, h, f _ _ H q.2 (.refl H) (.int _)⟩
    · exact .inr (.inl ⟨_, _, rfl, rfl, h, f _ _ H q.2 (.refl H) (.int _)⟩)
  · obtain ⟨p, vs, rfl, h1, h2⟩ := rx.lst_inv
    cases ry
    refine .inr (.inr ⟨p, _, vs, rfl, rfl, rd_mono hid_le h1, q.1.1, q.1.2.1, by rw [h2.length, ← lim]; exact q.1.2.2, fun p hp => ?_⟩)
    exact f _ _ _ q.2 (.one hp (fun _ _ _ z => nomatch z)) (.lst (.inl (by rw [hide_out (nA p hp)]; exact upd_same)) (reps_up hp (h2.rep _)))
theorem de_mul {a b : Expr} {wa wb : WE} {pos : Pos} (ha : DE X W a wa) (hb : DE X W b wb) : DE X W (.BinOp a .Mult b pos) (w2 mulD wa wb) := de_op op_mulA mul_s ha hb
def wRep (a b : WE) : WO := fun ρ Q R => a ρ (fun d ρ1 => b ρ1 (fun e ρ2 => lstD d fun xs => intOf e fun j => (-(2 ^ 63) ≤ j ∧ j < 2 ^ 63 ∧ xs.length * j.toNat ≤ LIM) ∧ Q (.lst (repL j xs)) ρ2) R) R
theorem do_rep {a b : Expr} {wa wb : WE} {pos : Pos} (ha : DE X W a wa) (hb : DE X W b wb) : DO X W (.BinOp a .Mult b pos) (wRep wa wb) := by
  obtain ⟨ta, pa, la⟩ := ha.ex; obtain ⟨tb, pb, lb⟩ := hb.ex
  refine ⟨_, pe_op op_repR pa pb, fun fm H σ ρ Q R QV s q x k => la fm H σ ρ _ R _ s q x fun v H1 d ρ1 q1 g1 r1 => lb fm H1 σ ρ1 _ R _ g1.rs q1 (x.to g1) fun u H2 e ρ2 q2 g2 r2 => ?_⟩
  cases d <;> first | exact q2.elim | skip
  cases e <;> first | exact q2.elim | skip
  obtain ⟨p, vs, rfl, h1, h2⟩ := (g2.go.rep r1).lst_inv
  cases r2
  refine ⟨p, _, vs, rfl, rfl, rd_mono hid_le h1, q2.1.1, q2.1.2.1, by rw [h2.length, ← lim]; exact q2.1.2.2, fun p hp => ?_⟩
  exact k p _ _ ρ2 q2.2 ((new_lst g2.rs hp (h2.rep _)).of (g1.trans g2))
def DivOk (j : Int) : Prop := 0 < j ∧ j.natAbs.log2 < 9000
theorem de_fdiv {a b : Expr} {wa wb : WE} {pos : Pos} (ha : DE X W a wa) (hb : DE X W b wb) : DE X W (.BinOp a .FloorDiv b pos) (w2 (o2I (fun _ j => DivOk j) fun i j => .int (i / j)) wa wb) := de_op op_fdivW (ops_I fun _ _ _ => .int _) ha hb
theorem de_mod {a b : Expr} {wa wb : WE} {pos : Pos} (ha : DE X W a wa) (hb : DE X W b wb) : DE X W (.BinOp a .Mod b pos) (w2 (o2I (fun _ j => 0 < j) fun i j => .int (i % j)) wa wb) := de_op op_mod (ops_I fun _ _ _ => .int _) ha hb
theorem de_pow {a b : Expr} {wa wb : WE} {pos : Pos} (ha : DE X W a wa) (hb : DE X W b wb) : DE X W (.BinOp a .Pow b pos) (w2 (o2I CPow fun i j => .int (i ^ j.toNat)) wa wb) := de_op op_pow (ops_I fun _ _ _ => .int _) ha hb
theorem uns_I {g : Int → V} {g' : Int → D} (h : ∀ i H, Rep K H (g i) (g' i)) : UnS K (rU g) (fun d k => intOf d fun i => k (g' i)) := fun A H x d k Q tr rx q f => by
  cases d <;> first | exact q.elim | skip
  cases rx
  exact ⟨_, rfl, f _ _ H q (.refl H) (h _ _)⟩
theorem de_neg {a : Expr} {wa : WE} {pos : Pos} (ha : DE X W a wa) : DE X W (.UnaryOp .USub a pos) (w1 (fun d k => intOf d fun i => k (.int (-i))) wa) := de_un un_neg (uns_I fun _ _ => .int _) ha
end
end DL

set_option Elab.async false
set_option linter.all false
set_option maxRecDepth 100000
namespace DL
open PySem L2

/-! ## storing into a slot -/
theorem slotAs_no (x : Option V) : slotAs x .no = [] := by cases x with | none => rfl | some v => cases v <;> rfl
theorem slotAs_v (x : Option V) (d : D) : slotAs x (.v d) = [] := by cases x with | none => rfl | some v => cases v <;> rfl
theorem owned_put_perm (x : Option V) (s : Sl) : ∀ (σ : St) (ρ : Env) (i : Nat), i < σ.length → i < ρ.length → (owned (σ.set i x) (Env.put ρ i s)).Perm (slotAs x s ++ owned (σ.set i none) (Env.put ρ i .no))
  | [], _, _, h, _ => by simp at h
  | _ :: _, [], _, _, h => by simp at h
  | v :: σ, t :: ρ, 0, _, _ => by
    show (slotAs x s ++ owned σ ρ).Perm (slotAs x s ++ (slotAs none .no ++ owned σ ρ))
    rw [slotAs_no]; exact .refl _
  | v :: σ, t :: ρ, i + 1, h, h' => by
    show (slotAs v t ++ owned (σ.set i x) (Env.put ρ i s)).Perm (slotAs x s ++ (slotAs v t ++ owned (σ.set i none) (Env.put ρ i .no)))
    have ih := owned_put_perm x s σ ρ i (by simpa using h) (by simpa using h')
    refine (List.Perm.append_left _ ih).trans ?_
    rw [← List.append_assoc, ← List.append_assoc]
    exact List.Perm.append_right _ List.perm_append_comm
theorem owned_none_sub : ∀ (σ : St) (ρ : Env) (i : Nat), (owned (σ.set i none) (Env.put ρ i .no)).Sublist (owned σ ρ)
  | [], _, _ => by simp [owned]
  | v :: σ, [], i => by cases i <;> simp [owned, Env.put]
  | v :: σ, t :: ρ, 0 => by
    show (slotAs none .no ++ owned σ ρ).Sublist (slotAs v t ++ owned σ ρ)
    rw [slotAs_no]; exact List.sublist_append_right _ _
  | v :: σ, t :: ρ, i + 1 => by
    show (slotAs v t ++ owned (σ.set i none) (Env.put ρ i .no)).Sublist (slotAs v t ++ owned σ ρ)
    exact List.Sublist.append_left (owned_none_sub σ ρ i) _
theorem put_at : ∀ (ρ : Env) (i : Nat), Env.put ρ i (Env.at ρ i) = ρ
  | [], _ => rfl
  | _ :: _, 0 => rfl
  | t :: r, i + 1 => congrArg (t :: ·) (put_at r i)
theorem owned_at (σ : St) (ρ : Env) (i : Nat) (h : i < σ.length) (h' : i < ρ.length) : (owned σ ρ).Perm (slotAs (σ.getD i none) (Env.at ρ i) ++ owned (σ.set i none) (Env.put ρ i .no)) := by
  have e1 : σ.set i (σ.getD i none) = σ := by
    rw [List.getD_eq_getElem?_getD, List.getElem?_eq_getElem h]; simp
  have := owned_put_perm (σ.getD i none) (Env.at ρ i) σ ρ i h h'
  rwa [e1, put_at] at this
def noIns : Sl → Prop
  | .own (.ins _ _ _ _) => False
  | _ => True
def noInsO : OD → Prop
  | .ins _ _ _ _ => False
  | _ => True
/-- what may be put into a slot -/
def NewOk (K : PySem.W.Frag) (fm : Fm) (σ : St) (ρ : Env) (H : Hp) : Option V → Sl → Prop
  | _, .no => True
  | some v, .v d => Rep K (fm.hid σ ρ H) v d
  | some (.ref p), .own o => noInsO o ∧ RS K (fm.ex (ownAs p o)) H σ ρ ∧ OwnAt K (hide (ownAs p o ++ (fm.E ++ owned σ ρ)) H) H p o
  | _, _ => False
theorem slotOk_up {K : PySem.W.Frag} {Hm Hm' H : Hp} (up : ∀ b o, Hm b = some o → Hm' b = some o) {x : Option V} {s : Sl} (h : SlotOk K Hm H x s) : SlotOk K Hm' H x s := by
  cases x with
  | none => cases s <;> exact h
  | some v =>
    cases s with
    | no => trivial
    | v d => exact Rep.mono up h
    | own o =>
      cases v with
      | ref a =>
        cases o with
        | lst ds => obtain ⟨vs, h1, h2⟩ := h; exact ⟨vs, h1, h2.mono up⟩
        | dic ks ds => obtain ⟨kvs, h1, h2, h3⟩ := h; exact ⟨kvs, h1, h2, h3.mono up⟩
        | ins C dx ns ds => obtain ⟨fs, h1, h2, h3, h4⟩ := h; exact ⟨fs, h1, h2, h3.mono up, h4⟩
      | _ => exact h
theorem getD_set {σ : St} {i j : Nat} {x : Option V} (h : i < σ.length) : (σ.set i x).getD j none = if j = i then x else σ.getD j none := by
  rw [List.getD_eq_getElem?_getD, List.getD_eq_getElem?_getD, List.getElem?_set]
  by_cases e : j = i
  · subst e; simp [h]
  · rw [if_neg (fun z => e z.symm), if_neg e]
theorem owned_mem {σ : St} {ρ : Env} (hl : σ.length = ρ.length) {i : Nat} (hi : i < ρ.length) {a : Addr} (h : a ∈ slotAs (σ.getD i none) (Env.at ρ i)) : a ∈ owned σ ρ :=
  (owned_at σ ρ i (by rw [hl]; exact hi) hi).mem_iff.mpr (List.mem_append_left _ h)
/-- storing, where nothing but the new object is hidden more -/
theorem RS.put_core {K : PySem.W.Frag} {fm : Fm} {H : Hp} {σ : St} {ρ : Env} {i : Nat} {x : Option V} {s : Sl} (r : RS K (fm.ex (slotAs x s)) H σ ρ) (hi : i < ρ.length) (hF : ∀ p ∈ fm.F, (σ.set i x)[p.1]? = some (some (.ref p.2))) (old : noIns (Env.at ρ i))
    (nin : ∀ a ∈ slotAs x s, ∀ C dx fs, H a ≠ some (.ins C dx fs)) (new : SlotOk K ((fm.ex (slotAs x s)).hid σ ρ H) H x s) : RS K fm H (σ.set i x) (Env.put ρ i s) := by
  have hi' : i < σ.length := by rw [r.len]; exact hi
  have P := owned_put_perm x s σ ρ i hi' hi
  have S := owned_none_sub σ ρ i
  have PP : (fm.E ++ owned (σ.set i x) (Env.put ρ i s)).Perm (slotAs x s ++ (fm.E ++ owned (σ.set i none) (Env.put ρ i .no))) := by
    refine (List.Perm.append_left _ P).trans ?_
    rw [← List.append_assoc, ← List.append_assoc]
    exact List.Perm.append_right _ List.perm_append_comm
  have SS : (slotAs x s ++ (fm.E ++ owned (σ.set i none) (Env.put ρ i .no))).Sublist ((fm.ex (slotAs x s)).E ++ owned σ ρ) := by
    rw [show (fm.ex (slotAs x s)).E ++ owned σ ρ = slotAs x s ++ (fm.E ++ owned σ ρ) from List.append_assoc ..]
    exact List.Sublist.append_left (List.Sublist.append_left S _) _
  have mem : ∀ a, a ∈ fm.E ++ owned (σ.set i x) (Env.put ρ i s) → a ∈ (fm.ex (slotAs x s)).E ++ owned σ ρ := fun a h => SS.subset (PP.mem_iff.mp h)
  have up : ∀ b o, (fm.ex (slotAs x s)).hid σ ρ H b = some o → fm.hid (σ.set i x) (Env.put ρ i s) H b = some o := fun b o h => by
    obtain ⟨m, h⟩ := hide_some h
    exact (hide_out fun z => m (mem b z)).trans h
  refine ⟨by rw [List.length_set, Env.put_len]; exact r.len, fun j => ?_, PP.nodup_iff.mpr (SS.nodup r.nd), fun a ha => r.tr a (mem a ha), r.ins, fun b C dx fs h => ?_, fun c b hc h => ?_, r.keep, fun p hp => ?_⟩
  · rw [getD_set hi', Env.at_put s ρ i j hi]
    by_cases e : j = i
    · subst e; rw [if_pos rfl, if_pos rfl]; exact slotOk_up up new
    · rw [if_neg e, if_neg e]; exact slotOk_up up (r.sl j)
  · -- dx ∈ .. ↔ b ∈ ..
    have c := r.cl b C dx fs h
    have nb : b ∉ slotAs x s := fun z => nin b z C dx fs h
    have hdx := r.ins b C dx fs h
    -- the dropped slot holds neither an instance nor its dict
    have drop : ∀ a, a ∈ fm.E ++ owned σ ρ → (∀ vs, H a ≠ some (.lst vs)) → (∀ kvs, H a ≠ some (.dK kvs)) → a ∈ fm.E ++ owned (σ.set i none) (Env.put ρ i .no) := fun a ha h1 h2 => by
      rw [List.mem_append] at ha ⊢
      refine ha.imp id fun z => ?_
      rcases List.mem_append.mp ((owned_at σ ρ i hi' hi).mem_iff.mp z) with z | z
      · exfalso
        have so := r.sl i
        cases e1 : σ.getD i none with
        | none => rw [e1] at z; simp [slotAs] at z
        | some v =>
          rw [e1] at z so
          cases v with
          | ref p =>
            cases e2 : Env.at ρ i with
            | no => rw [e2] at z; simp [slotAs] at z
            | v d => rw [e2] at z; simp [slotAs] at z
            | own o =>
              rw [e2] at z so old
              cases o with
              | lst ds => have e : a = p := by simpa [slotAs, ownAs] using z
                          subst e; obtain ⟨vs, q, _⟩ := so; exact h1 _ q
              | dic ks ds => have e : a = p := by simpa [slotAs, ownAs] using z
                             subst e; obtain ⟨vs, q, _⟩ := so; exact h2 _ q
              | ins C dx ns ds => exact old.elim
          | _ => revert z; cases Env.at ρ i <;> simp [slotAs]
      · exact z
    have ndx : dx ∉ slotAs x s := fun z => by
      have z' : dx ∈ (fm.ex (slotAs x s)).E ++ owned σ ρ := List.mem_append_left _ (List.mem_append_left _ z)
      have zb := c.mp z'
      -- an owned new list is no dict of an instance
      cases x with
      | none => cases s <;> simp [slotAs] at z
      | some v =>
        cases v with
        | ref p =>
          cases s with
          | no => simp [slotAs] at z
          | v d => simp [slotAs] at z
          | own o =>
            cases o with
            | lst ds => have e : dx = p := by simpa [slotAs, ownAs] using z
                        subst e; obtain ⟨vs, q, _⟩ := new; rw [hdx] at q; cases q
            | dic ks ds => have e : dx = p := by simpa [slotAs, ownAs] using z
                           subst e; obtain ⟨vs, q, _⟩ := new; rw [hdx] at q; cases q
            | ins C' dx' ns ds =>
              obtain ⟨fs', q, _⟩ := new
              exact nin p (by simp [slotAs, ownAs]) _ _ _ q
        | _ => cases s <;> simp [slotAs] at z
    have assoc : ∀ a, a ∈ (fm.ex (slotAs x s)).E ++ owned σ ρ ↔ (a ∈ slotAs x s ∨ a ∈ fm.E ++ owned σ ρ) := fun a => by
      rw [show (fm.ex (slotAs x s)).E ++ owned σ ρ = slotAs x s ++ (fm.E ++ owned σ ρ) from List.append_assoc .., List.mem_append]
    have m1 : ∀ a, a ∈ slotAs x s ++ (fm.E ++ owned (σ.set i none) (Env.put ρ i .no)) ↔ (a ∈ slotAs x s ∨ a ∈ fm.E ++ owned (σ.set i none) (Env.put ρ i .no)) := fun a => List.mem_append
    rw [PP.mem_iff, PP.mem_iff, m1, m1]
    have sub : ∀ a, a ∈ fm.E ++ owned (σ.set i none) (Env.put ρ i .no) → a ∈ fm.E ++ owned σ ρ := fun a h => (List.Sublist.append_left S fm.E).subset h
    constructor
    · rintro (z | z)
      · exact (ndx z).elim
      · have := (assoc b).mp (c.mp ((assoc dx).mpr (.inr (sub dx z))))
        exact .inr (drop b (this.resolve_left nb) (fun vs q => by rw [h] at q; cases q) (fun vs q => by rw [h] at q; cases q))
    · rintro (z | z)
      · exact (nb z).elim
      · have := (assoc dx).mp (c.mpr ((assoc b).mpr (.inr (sub b z))))
        exact .inr (drop dx (this.resolve_left ndx) (fun vs q => by rw [hdx] at q; cases q) (fun vs q => by rw [hdx] at q; cases q))
  · obtain ⟨h1, C, fs, h2⟩ := r.co c b (mem c hc) h
    refine ⟨PP.mem_iff.mpr ?_, C, fs, h2⟩
    have m1 : ∀ a, a ∈ slotAs x s ++ (fm.E ++ owned (σ.set i none) (Env.put ρ i .no)) ↔ (a ∈ slotAs x s ∨ a ∈ fm.E ++ owned (σ.set i none) (Env.put ρ i .no)) := fun a => List.mem_append
    rw [m1]
    rw [show (fm.ex (slotAs x s)).E ++ owned σ ρ = slotAs x s ++ (fm.E ++ owned σ ρ) from List.append_assoc .., List.mem_append, List.mem_append] at h1
    rcases h1 with z | z | z
    · exact .inl z
    · exact .inr (List.mem_append_left _ z)
    · refine .inr (List.mem_append_right _ ?_)
      rcases List.mem_append.mp ((owned_at σ ρ i hi' hi).mem_iff.mp z) with z | z
      · exfalso
        have so := r.sl i
        cases e1 : σ.getD i none with
        | none => rw [e1] at z; simp [slotAs] at z
        | some v =>
          rw [e1] at z so
          cases v with
          | ref p =>
            cases e2 : Env.at ρ i with
            | no => rw [e2] at z; simp [slotAs] at z
            | v d => rw [e2] at z; simp [slotAs] at z
            | own o =>
              rw [e2] at z so old
              cases o with
              | lst ds => have e : b = p := by simpa [slotAs, ownAs] using z
                          subst e; obtain ⟨vs, q, _⟩ := so; rw [h2] at q; cases q
              | dic ks ds => have e : b = p := by simpa [slotAs, ownAs] using z
                             subst e; obtain ⟨vs, q, _⟩ := so; rw [h2] at q; cases q
              | ins C dx ns ds => exact old.elim
          | _ => revert z; cases Env.at ρ i <;> simp [slotAs]
      · exact z
  · exact hF p hp
theorem RS.put {K : PySem.W.Frag} {fm : Fm} {H : Hp} {σ : St} {ρ : Env} (r : RS K fm H σ ρ) {i : Nat} {x : Option V} {s : Sl} (hi : i < ρ.length) (hF : ∀ p ∈ fm.F, p.1 ≠ i) (old : noIns (Env.at ρ i)) (new : NewOk K fm σ ρ H x s) :
    RS K fm H (σ.set i x) (Env.put ρ i s) := by
  have hF : ∀ p ∈ fm.F, (σ.set i x)[p.1]? = some (some (.ref p.2)) := fun p hp => by
    rw [List.getElem?_set_ne (fun z => hF p hp z.symm)]
    exact r.fx p hp
  cases s with
  | no => exact RS.put_core (x := x) (s := .no) (by rw [slotAs_no]; exact r) hi hF old (by rw [slotAs_no]; intro a h; cases h) (by cases x <;> trivial)
  | v d =>
    cases x with
    | none => exact new.elim
    | some v => exact RS.put_core (x := some v) (s := .v d) (by rw [slotAs_v]; exact r) hi hF old (by rw [slotAs_v]; intro a h; cases h) (by rw [slotAs_v]; exact new)
  | own o =>
    cases x with
    | none => exact new.elim
    | some v =>
      cases v with
      | ref p =>
        obtain ⟨n1, n2, n3⟩ := new
        refine RS.put_core (x := some (.ref p)) (s := .own o) n2 hi hF old ?_ ?_
        · intro a ha C dx fs q
          cases o with
          | lst ds => have e : a = p := by simpa [slotAs, ownAs] using ha
                      subst e; obtain ⟨vs, q', _⟩ := n3; rw [q] at q'; cases q'
          | dic ks ds => have e : a = p := by simpa [slotAs, ownAs] using ha
                         subst e; obtain ⟨vs, q', _⟩ := n3; rw [q] at q'; cases q'
          | ins C dx ns ds => exact n1.elim
        · show OwnAt K (hide ((ownAs p o ++ fm.E) ++ owned σ ρ) H) H p o
          rw [List.append_assoc]; exact n3
      | _ => exact new.elim
end DL

set_option Elab.async false
set_option linter.all false
set_option maxRecDepth 100000
namespace DL
open PySem L2

theorem RS.ex_weak {K : PySem.W.Frag} {fm : Fm} {p : Addr} {o : OD} {H : Hp} {σ : St} {ρ : Env} (n1 : noInsO o) (r : RS K (fm.ex (ownAs p o)) H σ ρ) (hp : (∃ vs, H p = some (.lst vs)) ∨ ∃ kvs, H p = some (.dK kvs)) : RS K fm H σ ρ := by
  have hB : ∀ a, a ∈ ownAs p o → a = p := fun a h => by cases o with
    | ins C dx ns ds => exact n1.elim
    | _ => simpa [ownAs] using h
  have assoc : (fm.ex (ownAs p o)).E ++ owned σ ρ = ownAs p o ++ (fm.E ++ owned σ ρ) := List.append_assoc ..
  have sub : ∀ a, a ∈ fm.E ++ owned σ ρ → a ∈ (fm.ex (ownAs p o)).E ++ owned σ ρ := fun a h => by rw [assoc]; exact List.mem_append_right _ h
  have up : ∀ b u, (fm.ex (ownAs p o)).hid σ ρ H b = some u → fm.hid σ ρ H b = some u := fun b u h => by
    obtain ⟨m, h⟩ := hide_some h
    exact (hide_out fun z => m (sub b z)).trans h
  have nd := r.nd
  rw [assoc] at nd
  refine ⟨r.len, fun i => slotOk_up up (r.sl i), (List.nodup_append.mp nd).2.1, fun a h => r.tr a (sub a h), r.ins, fun b C dx fs h => ?_, fun c b hc h => ?_, r.keep, r.fx⟩
  rotate_left
  · obtain ⟨h1, C, fs, h2⟩ := r.co c b (sub c hc) h
    rw [assoc] at h1
    refine ⟨(List.mem_append.mp h1).resolve_left fun z => ?_, C, fs, h2⟩
    have e := hB b z
    subst e
    rcases hp with ⟨vs, q⟩ | ⟨kvs, q⟩ <;> (rw [h2] at q; cases q)
  have c := r.cl b C dx fs h
  have nb : b ∉ ownAs p o := fun z => by
    have e := hB b z
    subst e
    rcases hp with ⟨vs, q⟩ | ⟨kvs, q⟩ <;> (rw [h] at q; cases q)
  have ndx : dx ∉ ownAs p o := fun z => by
    have e := hB dx z
    have hd := r.ins b C dx fs h
    subst e
    rcases hp with ⟨vs, q⟩ | ⟨kvs, q⟩ <;> (rw [hd] at q; cases q)
  have m1 : ∀ a, a ∈ ownAs p o ++ (fm.E ++ owned σ ρ) ↔ (a ∈ ownAs p o ∨ a ∈ fm.E ++ owned σ ρ) := fun a => List.mem_append
  rw [assoc, m1, m1] at c
  exact ⟨fun z => (c.mp (.inr z)).resolve_left nb, fun z => (c.mpr (.inr z)).resolve_left ndx⟩

/-! ## statements -/
structure KS where
  nx : Env → Prop
  rt : Sl → Env → Prop
  bk : Env → Prop := fun _ => False
  ct : Env → Prop := fun _ => False
  ex : KR
abbrev WS := Env → KS → Prop
/-- what is handed back -/
def RetOk (K : PySem.W.Frag) (fm : Fm) (σ : St) (ρ : Env) (H : Hp) (v : V) : Sl → Prop
  | .no => False
  | .v d => Rep K (fm.hid σ ρ H) v d
  | .own o => ∃ p, v = .ref p ∧ RS K (fm.ex (ownAs p o)) H σ ρ ∧ OwnAt K (hide (ownAs p o ++ (fm.E ++ owned σ ρ)) H) H p o
abbrev Mo (A B : Hp) : Prop := ∀ b o, A b = some o → B b = some o
structure EndsOk (K : PySem.W.Frag) (W : WW) (fm : Fm) (Hb : Hp) (D : Ends) (k : KS) : Prop where
  nx : ∀ σ H ρ, k.nx ρ → RS K fm H σ ρ → Mo Hb (fm.hid σ ρ H) → D.nx σ H
  rt : ∀ v σ H s ρ, k.rt s ρ → RS K fm H σ ρ → Mo Hb (fm.hid σ ρ H) → RetOk K fm σ ρ H v s → D.rt v H
  bk : ∀ σ H ρ, k.bk ρ → RS K fm H σ ρ → Mo Hb (fm.hid σ ρ H) → D.bk σ H
  ct : ∀ σ H ρ, k.ct ρ → RS K fm H σ ρ → Mo Hb (fm.hid σ ρ H) → D.ct σ H
  ex : ∀ x σ H ρ cls dd, k.ex x ρ → RS K fm H σ ρ → Mo Hb (fm.hid σ ρ H) → ExR K (fm.hid σ ρ H) H cls dd x → W.x cls dd σ H
theorem EndsOk.base {K : PySem.W.Frag} {W : WW} {fm : Fm} {A B : Hp} {D : Ends} {k : KS} (e : EndsOk K W fm A D k) (m : Mo A B) : EndsOk K W fm B D k :=
  ⟨fun σ H ρ q r n => e.nx σ H ρ q r fun b o h => n b o (m b o h), fun v σ H s ρ q r n => e.rt v σ H s ρ q r fun b o h => n b o (m b o h), fun σ H ρ q r n => e.bk σ H ρ q r fun b o h => n b o (m b o h),
   fun σ H ρ q r n => e.ct σ H ρ q r fun b o h => n b o (m b o h), fun x σ H ρ c d q r n => e.ex x σ H ρ c d q r fun b o h => n b o (m b o h)⟩
def LS (K : PySem.W.Frag) (W : WW) (t : TS) (w : WS) : Prop :=
  ∀ (fm : Fm) (H : Hp) (σ : St) (ρ : Env) (k : KS) (D : Ends), RS K fm H σ ρ → (∀ p ∈ fm.F, p.1 ∈ W.io) → w ρ k → EndsOk K W fm (fm.hid σ ρ H) D k → t D σ H
structure DS (X : Cx) (W : WW) (st : Stmt) (w : WS) : Prop where
  ex : ∃ t, PS X st t ∧ LS X.K W t w
structure DB (X : Cx) (W : WW) (sts : List Stmt) (w : WS) : Prop where
  ex : ∃ t, PSs X sts t ∧ LS X.K W t w
/-- .. of an expression in a statement -/
theorem EndsOk.xok {K : PySem.W.Frag} {W : WW} {fm : Fm} {σ : St} {ρ : Env} {H : Hp} {D : Ends} {k : KS} (e : EndsOk K W fm (fm.hid σ ρ H) D k) (hf : ∀ p ∈ fm.F, p.1 ∈ W.io) : XOk K W fm σ H ρ k.ex :=
  ⟨hf, fun x ρ' H' cls dd q t xr => e.ex x σ H' ρ' cls dd q t.rs t.go.sub xr⟩

section
variable {X : Cx} {W : WW} {K : PySem.W.Frag}
def sNext : WS := fun ρ k => k.nx ρ
def sSeq (a b : WS) : WS := fun ρ k => a ρ { k with nx := fun ρ' => b ρ' k }
theorem ls_next : LS K W tNext sNext := fun fm H σ ρ k D r hf q e => e.nx σ H ρ q r fun _ _ h => h
theorem ls_seq {t u : TS} {a b : WS} (ha : LS K W t a) (hb : LS K W u b) : LS K W (tSeq t u) (sSeq a b) := fun fm H σ ρ k D r hf q e =>
  ha fm H σ ρ _ { D with nx := u D } r hf q ⟨fun σ' H' ρ' q' r' m => hb fm H' σ' ρ' k D r' hf q' (e.base m), e.rt, e.bk, e.ct, e.ex⟩
theorem db_nil : DB X W [] sNext := ⟨_, pss_nil, ls_next⟩
theorem db_cons {st : Stmt} {rest : List Stmt} {a b : WS} (ha : DS X W st a) (hb : DB X W rest b) : DB X W (st :: rest) (sSeq a b) := by
  obtain ⟨t, p, l⟩ := ha.ex; obtain ⟨t', p', l'⟩ := hb.ex; exact ⟨_, pss_cons p p', ls_seq l l'⟩
theorem db_one {st : Stmt} {a : WS} (ha : DS X W st a) : DB X W [st] a := by
  obtain ⟨t, p, l⟩ := ha.ex; exact ⟨_, pss_one p, l⟩
theorem ds_pass {pos : Pos} : DS X W (.Pass pos) sNext := ⟨_, ps_pass, ls_next⟩
def sBreak : WS := fun ρ k => k.bk ρ
def sCont : WS := fun ρ k => k.ct ρ
theorem ds_break {pos : Pos} : DS X W (.Break pos) sBreak := ⟨_, ps_break, fun fm H σ ρ k D r hf q e => e.bk σ H ρ q r fun _ _ h => h⟩
theorem ds_cont {pos : Pos} : DS X W (.Continue pos) sCont := ⟨_, ps_continue, fun fm H σ ρ k D r hf q e => e.ct σ H ρ q r fun _ _ h => h⟩
def sExpr (a : WE) : WS := fun ρ k => a ρ (fun _ ρ1 => k.nx ρ1) k.ex
theorem ls_expr {t : TE} {a : WE} (ha : LE K W t a) : LS K W (tDrop t) (sExpr a) := fun fm H σ ρ k D r hf q e =>
  ha fm H σ ρ _ k.ex _ r q (e.xok hf) fun v H1 d ρ1 q1 g1 r1 => e.nx σ H1 ρ1 q1 g1.rs g1.go.sub
theorem ds_expr {e : Expr} {a : WE} {pos : Pos} (ha : DE X W e a) (hs : swapsWith e none pos.line X.env = pure false := by rfl) : DS X W (.Expr e pos) (sExpr a) := by
  obtain ⟨t, p, l⟩ := ha.ex; exact ⟨_, ps_expr p hs, ls_expr l⟩
def sRet (a : WE) : WS := fun ρ k => a ρ (fun d ρ1 => k.rt (.v d) ρ1) k.ex
theorem ds_ret {e : Expr} {a : WE} {pos : Pos} (ha : DE X W e a) : DS X W (.Return (some e) pos) (sRet a) := by
  obtain ⟨t, p, l⟩ := ha.ex
  exact ⟨_, ps_ret p, fun fm H σ ρ k D r hf q e => l fm H σ ρ _ k.ex _ r q (e.xok hf) fun v H1 d ρ1 q1 g1 r1 => e.rt v σ H1 (.v d) ρ1 q1 g1.rs g1.go.sub r1⟩
def sRetN : WS := fun ρ k => k.rt (.v .non) ρ
theorem ds_retN {pos : Pos} : DS X W (.Return none pos) sRetN := ⟨_, ps_retN, fun fm H σ ρ k D r hf q e => e.rt .non σ H (.v .non) ρ q r (fun _ _ h => h) .non⟩
def sRetO (a : WO) : WS := fun ρ k => a ρ (fun o ρ1 => noInsO o ∧ k.rt (.own o) ρ1) k.ex
theorem OwnAt.kind {Hm H : Hp} {p : Addr} {o : OD} (n : noInsO o) (h : OwnAt K Hm H p o) : (∃ vs, H p = some (.lst vs)) ∨ ∃ kvs, H p = some (.dK kvs) := by
  cases o with
  | lst ds => obtain ⟨vs, h1, _⟩ := h; exact .inl ⟨vs, h1⟩
  | dic ks ds => obtain ⟨vs, h1, _⟩ := h; exact .inr ⟨vs, h1⟩
  | ins C dx ns ds => exact n.elim
theorem ds_retO {e : Expr} {a : WO} {pos : Pos} (ha : DO X W e a) : DS X W (.Return (some e) pos) (sRetO a) := by
  obtain ⟨t, p, l⟩ := ha.ex
  exact ⟨_, ps_ret p, fun fm H σ ρ k D r hf q e => l fm H σ ρ _ k.ex _ r q (e.xok hf) fun p H1 o ρ1 q1 n => e.rt _ σ H1 (.own o) ρ1 q1.2 n.to.rs n.to.go.sub ⟨p, rfl, n.rs, n.oa⟩⟩
def sIf (t : WT) (a b : WS) : WS := fun ρ k => t ρ (fun c ρ1 => (c = true → a ρ1 k) ∧ (c = false → b ρ1 k)) k.ex
theorem ls_if {tt : TT} {t u : TS} {wt : WT} {a b : WS} (ht : LT K W tt wt) (ha : LS K W t a) (hb : LS K W u b) : LS K W (tIfS tt t u) (sIf wt a b) := fun fm H σ ρ k D r hf q e =>
  ht fm H σ ρ _ k.ex _ r q (e.xok hf) fun c H1 ρ1 q1 g1 => by
    cases c with
    | true => exact ha fm H1 σ ρ1 k D g1.rs hf (q1.1 rfl) (e.base g1.go.sub)
    | false => exact hb fm H1 σ ρ1 k D g1.rs hf (q1.2 rfl) (e.base g1.go.sub)
theorem ds_if {c : Expr} {as bs : List Stmt} {pos : Pos} {t : WT} {a b : WS} (hc : DT X W c t) (ha : DB X W as a) (hb : DB X W bs b) : DS X W (.If c as bs pos) (sIf t a b) := by
  obtain ⟨tt, pt, lt⟩ := hc.ex; obtain ⟨ta, pa, la⟩ := ha.ex; obtain ⟨tb, pb, lb⟩ := hb.ex
  exact ⟨_, ps_if pt pa pb, ls_if lt la lb⟩

/-! ### storing -/
def putK : Env → Nat → Sl → (Env → Prop) → Prop
  | [], _, _, _ => False
  | t :: r, 0, s, k => (match t with | .own (.ins _ _ _ _) => False | _ => k (s :: r))
  | t :: r, i + 1, s, k => putK r i s fun r' => k (t :: r')
theorem putK_spec : ∀ {ρ : Env} {i : Nat} {s : Sl} {k : Env → Prop}, putK ρ i s k → i < ρ.length ∧ noIns (Env.at ρ i) ∧ k (Env.put ρ i s)
  | [], _, _, _, h => h.elim
  | t :: r, 0, s, k, h => by
    refine ⟨by simp, ?_, ?_⟩
    · cases t with
      | own o => cases o with
        | ins C dx ns ds => exact h.elim
        | _ => trivial
      | _ => trivial
    · cases t with
      | own o => cases o with
        | ins C dx ns ds => exact h.elim
        | _ => exact h
      | _ => exact h
  | t :: r, i + 1, s, k, h => by
    obtain ⟨h1, h2, h3⟩ := putK_spec (ρ := r) (i := i) h
    exact ⟨by simpa using h1, h2, h3⟩
theorem io_ne {io : List Nat} {fm : Fm} {i : Nat} (hf : ∀ p ∈ fm.F, p.1 ∈ io) (hi : i ∉ io) : ∀ p ∈ fm.F, p.1 ≠ i := fun p hp e => hi (e ▸ hf p hp)
/-- what is put hides nothing that was seen -/
theorem put_mo {fm : Fm} {H : Hp} {σ : St} {ρ : Env} {i : Nat} {x : Option V} {s : Sl} (hl : σ.length = ρ.length) (hi : i < ρ.length) : Mo ((fm.ex (slotAs x s)).hid σ ρ H) (fm.hid (σ.set i x) (Env.put ρ i s) H) := fun b o h => by
  obtain ⟨m, h⟩ := hide_some h
  refine (hide_out fun z => m ?_).trans h
  have P := owned_put_perm x s σ ρ i (by rw [hl]; exact hi) hi
  have S := owned_none_sub σ ρ i
  rw [List.mem_append, P.mem_iff, List.mem_append] at z
  show b ∈ (slotAs x s ++ fm.E) ++ owned σ ρ
  rw [List.mem_append, List.mem_append]
  rcases z with z | z | z
  · exact .inl (.inr z)
  · exact .inl (.inl z)
  · exact .inr (S.subset z)
def sSet (i : Nat) (a : WE) : WS := fun ρ k => a ρ (fun d ρ1 => putK ρ1 i (.v d) k.nx) k.ex
theorem ls_set {t : TE} {a : WE} {i : Nat} (hi : i ∉ W.io) (ha : LE K W t a) : LS K W (tAsg t (gName i)) (sSet i a) := fun fm H σ ρ k D r hf q e =>
  ha fm H σ ρ _ k.ex _ r q (e.xok hf) fun v H1 d ρ1 q1 g1 r1 => by
    obtain ⟨h1, h2, h3⟩ := putK_spec q1
    have m := put_mo (fm := fm) (H := H1) (x := some v) (s := .v d) g1.rs.len h1
    rw [slotAs_v] at m
    exact e.nx _ H1 _ h3 (g1.rs.put h1 (io_ne hf hi) h2 r1) fun b o h => m b o (g1.go.sub b o h)
theorem ds_set {i : Nat} {x : Str} {e : Expr} {a : WE} {pos pos' : Pos} (hi : i ∉ W.io) (hN : X.N.Nodup) (hx : X.N[i]? = some x) (hl : Loc X.env.scope x) (ha : DE X W e a) (hs : swapsWith e (some (.Name x pos')) pos.line X.env = pure false := by rfl) (hf : X.fn x = true ∨ X.env.scope.names.lookup x = some .local := by first | exact .inl rfl | exact .inr rfl | assumption) :
    DS X W (.Assign [.Name x pos'] e pos) (sSet i a) := by
  obtain ⟨t, p, l⟩ := ha.ex; exact ⟨_, ps_set hN hx hl p hs hf, ls_set hi l⟩
def sSetO (i : Nat) (a : WO) : WS := fun ρ k => a ρ (fun o ρ1 => noInsO o ∧ putK ρ1 i (.own o) k.nx) k.ex
theorem ls_setO {t : TE} {a : WO} {i : Nat} (hi : i ∉ W.io) (ha : LO K W t a) : LS K W (tAsg t (gName i)) (sSetO i a) := fun fm H σ ρ k D r hf q e =>
  ha fm H σ ρ _ k.ex _ r q (e.xok hf) fun p H1 o ρ1 q1 n => by
    obtain ⟨n0, q1⟩ := q1
    obtain ⟨h1, h2, h3⟩ := putK_spec q1
    have m := put_mo (fm := fm) (H := H1) (x := some (.ref p)) (s := .own o) n.to.rs.len h1
    exact e.nx _ H1 _ h3 (n.to.rs.put h1 (io_ne hf hi) h2 ⟨n0, n.rs, n.oa⟩) fun b o h => m b o (n.mo b o h)
theorem ds_setO {i : Nat} {x : Str} {e : Expr} {a : WO} {pos pos' : Pos} (hi : i ∉ W.io) (hN : X.N.Nodup) (hx : X.N[i]? = some x) (hl : Loc X.env.scope x) (ha : DO X W e a) (hs : swapsWith e (some (.Name x pos')) pos.line X.env = pure false := by rfl) (hf : X.fn x = true ∨ X.env.scope.names.lookup x = some .local := by first | exact .inl rfl | exact .inr rfl | assumption) :
    DS X W (.Assign [.Name x pos'] e pos) (sSetO i a) := by
  obtain ⟨t, p, l⟩ := ha.ex; exact ⟨_, ps_set hN hx hl p hs hf, ls_setO hi l⟩

/-! ### taking a slot's object out; freezing it -/
theorem set_self {σ : St} {i : Nat} {v : V} (h : σ[i]? = some (some v)) : σ.set i (some v) = σ := by
  obtain ⟨h1, h2⟩ := List.getElem?_eq_some_iff.mp h
  rw [← h2]; exact List.set_getElem_self h1
/-- without the object in slot i -/
theorem RS.take {fm : Fm} {H : Hp} {σ : St} {ρ : Env} (r : RS K fm H σ ρ) {i : Nat} {a : Addr} {o : OD} (hv : σ[i]? = some (some (.ref a))) (ho : Env.at ρ i = .own o) (n : noInsO o) :
    RS K (fm.ex (ownAs a o)) H σ (Env.put ρ i .no) ∧ OwnAt K (hide (ownAs a o ++ (fm.E ++ owned σ (Env.put ρ i .no))) H) H a o ∧ Mo (fm.hid σ ρ H) ((fm.ex (ownAs a o)).hid σ (Env.put ρ i .no) H) := by
  have hi' : i < σ.length := (List.getElem?_eq_some_iff.mp hv).1
  have hi : i < ρ.length := by rw [← r.len]; exact hi'
  have e1 : σ.getD i none = some (.ref a) := by rw [List.getD_eq_getElem?_getD, hv]; rfl
  have O := owned_at σ ρ i hi' hi
  rw [e1, ho] at O
  have O' : (owned σ ρ).Perm (ownAs a o ++ owned σ (Env.put ρ i .no)) := by
    have P := owned_put_perm (some (.ref a)) .no σ ρ i hi' hi
    rw [set_self hv, slotAs_no] at P
    exact O.trans (List.Perm.append_left _ P.symm)
  have PP : ((fm.ex (ownAs a o)).E ++ owned σ (Env.put ρ i .no)).Perm (fm.E ++ owned σ ρ) := by
    show ((ownAs a o ++ fm.E) ++ owned σ (Env.put ρ i .no)).Perm _
    refine (List.Perm.append_right _ List.perm_append_comm).trans ?_
    rw [List.append_assoc]
    exact List.Perm.append_left _ O'.symm
  have up : ∀ b u, fm.hid σ ρ H b = some u → (fm.ex (ownAs a o)).hid σ (Env.put ρ i .no) H b = some u := fun b u h => by
    obtain ⟨m, h⟩ := hide_some h
    exact (hide_out fun z => m (PP.mem_iff.mp z)).trans h
  have so := r.sl i
  rw [e1, ho] at so
  refine ⟨⟨by rw [Env.put_len]; exact r.len, fun j => ?_, PP.nodup_iff.mpr r.nd, fun b h => r.tr b (PP.mem_iff.mp h), r.ins, fun b C dx fs h => by rw [PP.mem_iff, PP.mem_iff]; exact r.cl b C dx fs h, fun c b hc h => by rw [PP.mem_iff]; exact r.co c b (PP.mem_iff.mp hc) h, r.keep, r.fx⟩, ?_, up⟩
  · rw [Env.at_put _ ρ i j hi]
    by_cases e : j = i
    · rw [if_pos e]; cases σ.getD j none <;> trivial
    · rw [if_neg e]; exact slotOk_up up (r.sl j)
  · rw [← List.append_assoc]
    have so' : OwnAt K (fm.hid σ ρ H) H a o := so
    cases o with
    | lst ds => obtain ⟨vs, h1, h2⟩ := so'; exact ⟨vs, h1, h2.mono up⟩
    | dic ks ds => obtain ⟨kvs, h1, h2, h3⟩ := so'; exact ⟨kvs, h1, h2, h3.mono up⟩
    | ins C dx ns ds => exact n.elim
theorem put_put (s t : Sl) : ∀ (ρ : Env) (i : Nat), Env.put (Env.put ρ i s) i t = Env.put ρ i t
  | [], _ => rfl
  | _ :: _, 0 => rfl
  | x :: r, i + 1 => congrArg (x :: ·) (put_put s t r i)
theorem RS.own_at {fm : Fm} {H : Hp} {σ : St} {ρ : Env} (r : RS K fm H σ ρ) {i : Nat} {o : OD} (ho : Env.at ρ i = .own o) : ∃ a, σ[i]? = some (some (.ref a)) := by
  have so := r.sl i
  rw [ho] at so
  cases e : σ.getD i none with
  | none => rw [e] at so; exact so.elim
  | some v => rw [e] at so; cases v <;> first | exact so.elim | exact ⟨_, getD_some e⟩
theorem at_lt : ∀ {ρ : Env} {i : Nat} {o : OD}, Env.at ρ i = .own o → i < ρ.length
  | [], _, _, h => by cases h
  | _ :: _, 0, _, _ => by simp
  | _ :: r, i + 1, _, h => by simpa using at_lt (ρ := r) h
theorem RS.freeze {fm : Fm} {H : Hp} {σ : St} {ρ : Env} (r : RS K fm H σ ρ) {i : Nat} {o : OD} (ho : Env.at ρ i = .own o) (n : noInsO o) (hF : ∀ p ∈ fm.F, p.1 ≠ i) :
    RS K fm H σ (Env.put ρ i (.v o.toD)) ∧ Mo (fm.hid σ ρ H) (fm.hid σ (Env.put ρ i (.v o.toD)) H) := by
  obtain ⟨a, hv⟩ := r.own_at ho
  obtain ⟨t1, t2, t3⟩ := r.take hv ho n
  have r1 := t1.ex_weak n (OwnAt.kind n t2)
  have rp : Rep K (fm.hid σ (Env.put ρ i .no) H) (.ref a) o.toD := own_rep t2 (t1.notin (mem_ownAs a o))
  have hi : i < (Env.put ρ i .no).length := by rw [Env.put_len]; exact at_lt ho
  have old : noIns (Env.at (Env.put ρ i .no) i) := by rw [Env.at_put _ ρ i i (at_lt ho), if_pos rfl]; trivial
  have r2 := r1.put (x := some (.ref a)) (s := .v o.toD) hi hF old rp
  have m := put_mo (fm := fm) (H := H) (x := some (.ref a)) (s := .v o.toD) r1.len hi
  rw [set_self hv, put_put] at r2 m
  refine ⟨r2, fun b u h => m b u ?_⟩
  rw [slotAs_v]
  obtain ⟨m1, h1⟩ := hide_some (t3 b u h)
  refine (hide_out fun z => m1 ?_).trans h1
  exact (List.mem_append.mp z).elim (fun z => List.mem_append_left _ (List.mem_append_right _ z)) fun z => List.mem_append_right _ z
def frK : Env → Nat → (Env → Prop) → Prop
  | [], _, _ => False
  | t :: r, 0, k => (match t with | .own (.lst xs) => k (.v (.lst xs) :: r) | .own (.dic ks xs) => k (.v (.dic ks xs) :: r) | .own (.ins _ _ _ _) => False | _ => k (t :: r))
  | t :: r, i + 1, k => frK r i fun r' => k (t :: r')
theorem frK_spec : ∀ {ρ : Env} {i : Nat} {k : Env → Prop}, frK ρ i k → k ρ ∨ ∃ o, Env.at ρ i = .own o ∧ noInsO o ∧ k (Env.put ρ i (.v o.toD))
  | [], _, _, h => h.elim
  | t :: r, 0, k, h => by
    cases t with
    | own o => cases o with
      | ins C dx ns ds => exact h.elim
      | lst xs => exact .inr ⟨_, rfl, trivial, h⟩
      | dic ks xs => exact .inr ⟨_, rfl, trivial, h⟩
    | _ => exact .inl h
  | t :: r, i + 1, k, h => by
    rcases frK_spec (ρ := r) (i := i) h with h | ⟨o, h1, h2, h3⟩
    · exact .inl h
    · exact .inr ⟨o, h1, h2, h3⟩
/-- what stands in slot i is not changed any more -/
def sFreeze (i : Nat) (a : WS) : WS := fun ρ k => frK ρ i fun ρ' => a ρ' k
theorem ls_freeze {t : TS} {a : WS} {i : Nat} (hi : i ∉ W.io) (h : LS K W t a) : LS K W t (sFreeze i a) := fun fm H σ ρ k D r hf q e => by
  rcases frK_spec q with q | ⟨o, h1, h2, h3⟩
  · exact h fm H σ ρ k D r hf q e
  · obtain ⟨r2, m⟩ := r.freeze h1 h2 (io_ne hf hi)
    exact h fm H σ _ k D r2 hf h3 (e.base m)
theorem ds_freeze {st : Stmt} {a : WS} (i : Nat) (hi : i ∉ W.io) (h : DS X W st a) : DS X W st (sFreeze i a) := by
  obtain ⟨t, p, l⟩ := h.ex; exact ⟨_, p, ls_freeze hi l⟩
/-- return of a slot's own object, as its own -/
def takeK : Env → Nat → (OD → Env → Prop) → Prop
  | [], _, _ => False
  | t :: r, 0, k => (match t with | .own (.ins _ _ _ _) => False | .own o => k o (.no :: r) | _ => False)
  | t :: r, i + 1, k => takeK r i fun o r' => k o (t :: r')
theorem takeK_spec : ∀ {ρ : Env} {i : Nat} {k : OD → Env → Prop}, takeK ρ i k → ∃ o, Env.at ρ i = .own o ∧ noInsO o ∧ k o (Env.put ρ i .no)
  | [], _, _, h => h.elim
  | t :: r, 0, k, h => by
    cases t with
    | own o => cases o with
      | ins C dx ns ds => exact h.elim
      | lst xs => exact ⟨_, rfl, trivial, h⟩
      | dic ks xs => exact ⟨_, rfl, trivial, h⟩
    | _ => exact h.elim
  | t :: r, i + 1, k, h => by
    obtain ⟨o, h1, h2, h3⟩ := takeK_spec (ρ := r) (i := i) h
    exact ⟨o, h1, h2, h3⟩
def sRetB (i : Nat) : WS := fun ρ k => takeK ρ i fun o ρ' => k.rt (.own o) ρ'
theorem ds_retB {e : Expr} {pos : Pos} (i : Nat) (ha : PE X e (tVar i)) : DS X W (.Return (some e) pos) (sRetB i) := by
  refine ⟨_, ps_ret ha, fun fm H σ ρ k D r hf q e => ?_⟩
  obtain ⟨o, h1, h2, h3⟩ := takeK_spec q
  obtain ⟨a, hv⟩ := r.own_at h1
  obtain ⟨t1, t2, t3⟩ := r.take hv h1 h2
  refine ⟨.ref a, hv, e.rt _ σ H (.own o) _ h3 (t1.ex_weak h2 (OwnAt.kind h2 t2)) (fun b u h => ?_) ⟨a, rfl, t1, t2⟩⟩
  obtain ⟨m1, h1⟩ := hide_some (t3 b u h)
  refine (hide_out fun z => m1 ?_).trans h1
  exact (List.mem_append.mp z).elim (fun z => List.mem_append_left _ (List.mem_append_right _ z)) fun z => List.mem_append_right _ z
end
end DL

set_option Elab.async false
set_option linter.all false
set_option maxRecDepth 100000
namespace DL
open PySem L2

section
variable {X : Cx} {W : WW} {K : PySem.W.Frag}
/-! ### changing a slot's own list -/
def modL : Env → Nat → (List D → (List D → Env) → Prop) → Prop
  | [], _, _ => False
  | t :: r, 0, k => (match t with | .own (.lst xs) => k xs fun ys => .own (.lst ys) :: r | _ => False)
  | t :: r, i + 1, k => modL r i fun xs f => k xs fun ys => t :: f ys
theorem modL_spec : ∀ {ρ : Env} {i : Nat} {k : List D → (List D → Env) → Prop}, modL ρ i k → ∃ xs, Env.at ρ i = .own (.lst xs) ∧ k xs fun ys => Env.put ρ i (.own (.lst ys))
  | [], _, _, h => h.elim
  | t :: r, 0, k, h => by
    cases t with
    | own o => cases o with
      | lst xs => exact ⟨xs, rfl, h⟩
      | _ => exact h.elim
    | _ => exact h.elim
  | t :: r, i + 1, k, h => modL_spec (ρ := r) (i := i) h
theorem RS.own_lst {fm : Fm} {H : Hp} {σ : St} {ρ : Env} (r : RS K fm H σ ρ) {i : Nat} {xs : List D} (ho : Env.at ρ i = .own (.lst xs)) : ∃ a vs, σ[i]? = some (some (.ref a)) ∧ H a = some (.lst vs) ∧ Reps K (fm.hid σ ρ H) vs xs := by
  obtain ⟨a, hv⟩ := r.own_at ho
  have so := r.sl i
  have e1 : σ.getD i none = some (.ref a) := by rw [List.getD_eq_getElem?_getD, hv]; rfl
  rw [e1, ho] at so
  obtain ⟨vs, h1, h2⟩ := so
  exact ⟨a, vs, hv, h1, h2⟩
theorem owned_upd {a : Addr} {xs ys : List D} : ∀ {σ : St} {ρ : Env} {i : Nat}, σ[i]? = some (some (.ref a)) → Env.at ρ i = .own (.lst xs) → owned σ (Env.put ρ i (.own (.lst ys))) = owned σ ρ
  | [], _, _, h, _ => by simp at h
  | _ :: _, [], _, _, h => by cases h
  | v :: σ, t :: ρ, 0, h, h' => by
    have e : v = some (.ref a) := by simpa using h
    have e' : t = .own (.lst xs) := h'
    subst e e'; rfl
  | v :: σ, t :: ρ, i + 1, h, h' => by
    show slotAs v t ++ owned σ (Env.put ρ i (.own (.lst ys))) = slotAs v t ++ owned σ ρ
    rw [owned_upd (i := i) (by simpa using h) h']
/-- the own list in slot i is another one now -/
theorem RS.updL {fm : Fm} {H : Hp} {σ : St} {ρ : Env} (r : RS K fm H σ ρ) {i : Nat} {a : Addr} {xs ys : List D} {vs us : List V} (hv : σ[i]? = some (some (.ref a))) (ho : Env.at ρ i = .own (.lst xs)) (ha : H a = some (.lst vs)) (hr : Reps K (fm.hid σ ρ H) us ys) :
    To K fm σ H ρ (upd H a (.lst us)) (Env.put ρ i (.own (.lst ys))) := by
  have e := owned_upd (i := i) (xs := xs) (ys := ys) hv ho
  have hi : i < ρ.length := at_lt ho
  have hi' : i < σ.length := by rw [r.len]; exact hi
  have e1 : σ.getD i none = some (.ref a) := by rw [List.getD_eq_getElem?_getD, hv]; rfl
  have ma : a ∈ owned σ ρ := owned_mem r.len hi (by rw [e1, ho]; simp [slotAs, ownAs])
  have hid : fm.hid σ (Env.put ρ i (.own (.lst ys))) (upd H a (.lst us)) = fm.hid σ ρ H := by
    funext b
    show hide (fm.E ++ owned σ (Env.put ρ i (.own (.lst ys)))) (upd H a (.lst us)) b = _
    rw [e]
    by_cases q : b ∈ fm.E ++ owned σ ρ
    · rw [hide_in q]; exact (hide_in q).symm
    · have nb : b ≠ a := fun z => q (List.mem_append_right _ (z ▸ ma))
      rw [hide_out q, upd_ne nb]; exact (hide_out q).symm
  have keepH : ∀ b o, b ≠ a → H b = some o → upd H a (.lst us) b = some o := fun b o n h => (upd_ne n).trans h
  refine ⟨⟨by rw [Env.put_len]; exact r.len, fun j => ?_, by rw [e]; exact r.nd, fun b hb => ?_, fun b C dx fs h => ?_, fun b C dx fs h => ?_, fun c b hc h => ?_, fun b o h => ?_, r.fx⟩, fun b o h n => keepH b o (fun z => n (z ▸ ma)) h, fun b h => by rw [e] at h; exact h⟩
  · rw [hid, Env.at_put _ ρ i j hi]
    by_cases q : j = i
    · subst q; rw [if_pos rfl, e1]; exact ⟨us, upd_same, hr⟩
    · rw [if_neg q]
      -- another slot's object is another one
      have s := r.sl j
      have ne : ∀ b ∈ slotAs (σ.getD j none) (Env.at ρ j), b ≠ a := fun b hb z => by
        subst z
        have nd := (List.nodup_append.mp r.nd).2.1
        have O := owned_at σ ρ i hi' hi
        rw [e1, ho] at O
        have nd2 := O.nodup_iff.mp nd
        have : b ∈ owned (σ.set i none) (Env.put ρ i .no) := by
          by_cases hj : j < ρ.length
          · refine owned_mem (σ := σ.set i none) (by rw [List.length_set, Env.put_len]; exact r.len) (i := j) (by rw [Env.put_len]; exact hj) ?_
            rw [getD_set hi', if_neg q, Env.at_put _ ρ i j hi, if_neg q]; exact hb
          · have : σ.getD j none = none := by rw [List.getD_eq_getElem?_getD, List.getElem?_eq_none (by rw [r.len]; omega)]; rfl
            rw [this] at hb; simp [slotAs] at hb
        exact (List.nodup_append.mp nd2).2.2 b (by simp [slotAs, ownAs]) b this rfl
      revert s ne
      cases σ.getD j none with
      | none => cases Env.at ρ j <;> exact fun h _ => h
      | some v =>
        cases Env.at ρ j with
        | no => exact fun h _ => h
        | v d => exact fun h _ => h
        | own o =>
          cases v with
          | ref c =>
            intro s ne
            cases o with
            | lst ds => obtain ⟨ws, h1, h2⟩ := s; exact ⟨ws, keepH _ _ (ne c (by simp [slotAs, ownAs])) h1, h2⟩
            | dic ks ds => obtain ⟨ws, h1, h2⟩ := s; exact ⟨ws, keepH _ _ (ne c (by simp [slotAs, ownAs])) h1, h2⟩
            | ins C dx ns ds => obtain ⟨ws, h1, h2, h3, h4⟩ := s; exact ⟨ws, keepH _ _ (ne c (by simp [slotAs, ownAs])) h1, h2, h3, keepH _ _ (ne dx (by simp [slotAs, ownAs])) h4⟩
          | _ => exact fun h _ => h
  · rw [e] at hb
    obtain ⟨⟨o, h, w⟩, g⟩ := r.tr b hb
    by_cases q : b = a
    · subst q; exact ⟨⟨_, upd_same, trivial⟩, g⟩
    · exact ⟨⟨o, keepH b o q h, w⟩, g⟩
  · have nb : b ≠ a := fun z => by subst z; rw [upd_same] at h; cases h
    rw [upd_ne nb] at h
    have := r.ins b C dx fs h
    exact keepH _ _ (fun z => by subst z; rw [ha] at this; cases this) this
  · have nb : b ≠ a := fun z => by subst z; rw [upd_same] at h; cases h
    rw [upd_ne nb] at h
    rw [e]; exact r.cl b C dx fs h
  · rw [e] at hc ⊢
    have nc : c ≠ a := fun z => by subst z; rw [upd_same] at h; cases h
    rw [upd_ne nc] at h
    obtain ⟨h1, C, fs, h2⟩ := r.co c b hc h
    exact ⟨h1, C, fs, keepH _ _ (fun z => by subst z; rw [ha] at h2; cases h2) h2⟩
  · have g := (r.tr a (List.mem_append_right _ ma)).2
    exact keepH b o (fun z => by subst z; rw [g] at h; cases h) (r.keep b o h)

/-- x.m(args) of the own list in slot i: what it gives and what the list is then -/
def MtS (r : V → List V → Hp → VK → Prop) (o : List D → List D → (D → List D → Prop) → Prop) : Prop :=
  ∀ (K : PySem.W.Frag) (H Hm : Hp) (l : Addr) (vs : List V) (xs : List D) (ws : List V) (ds : List D) (k : D → List D → Prop) (Q : VK), H l = some (.lst vs) → Reps K Hm vs xs → Reps K Hm ws ds → o xs ds k →
    (∀ v d us ys, k d ys → Rep K Hm v d → Reps K Hm us ys → Q v (upd H l (.lst us))) → r (.ref l) ws H Q
def wMut (i : Nat) (o : List D → List D → (D → List D → Prop) → Prop) (a : WA) : WE := fun ρ Q R => modL ρ i (fun _ _ => True) ∧ a ρ (fun ds ρ1 => modL ρ1 i fun xs f => o xs ds fun z ys => Q z (f ys)) R
theorem le_mut {r : V → List V → Hp → VK → Prop} {o : List D → List D → (D → List D → Prop) → Prop} {t : TA} {a : WA} (i : Nat) (hm : MtS r o) (ha : LA K W t a) : LE K W (tBM K "list" r (tVar i) t) (wMut i o a) := fun fm H σ ρ Q R QV s q x k => by
  obtain ⟨q0, q⟩ := q
  obtain ⟨xs0, h0, _⟩ := modL_spec q0
  obtain ⟨l, vs0, hv, hl0, _⟩ := s.own_lst h0
  refine ⟨_, hv, .inl ⟨rfl, vs0, .inl (.inl hl0)⟩, ha fm H σ ρ _ R _ s q x fun ws H1 ds ρ1 q1 g1 r1 => ?_⟩
  obtain ⟨xs, h1, q2⟩ := modL_spec q1
  obtain ⟨l', vs, hv', hl, hr⟩ := g1.rs.own_lst h1
  rw [hv] at hv'; cases hv'
  refine hm K H1 _ l vs xs ws ds _ QV hl hr r1 q2 fun v d us ys qk rv ru => ?_
  have t2 := g1.rs.updL hv h1 hl ru
  exact k v _ d _ qk (g1.trans t2) (t2.go.rep rv)
theorem de_mut {ox : Expr} {nm : Str} {cpos apos : Pos} {id : String} {e : Expr} {es : List Expr} {r : V → List V → Hp → VK → Prop} {o : List D → List D → (D → List D → Prop) → Prop} {a : WA} (i : Nat) (pa : PySem.PlainAttrs "list") (slot : PySem.Slot "list" nm id)
    (hty : typeOf (.builtin id) = pure (.type "method_descriptor")) (hm : MtR X id r) (hs : MtS r o) (hx : PE X ox (tVar i)) (ha : DA X W (e :: es) a)
    (hbase : attributeBase ox nm X.env (eval ox X.env) = eval ox X.env := by rfl)
    (hfew : ((backTo cpos (starEach (e :: es) X.env)).all (fun x => !x.1) && (backToKw cpos (keywordEach [] X.env)).all (fun x => x.1.isSome)
      && decide ((e :: es).length + ([] : List Keyword).length + (if ([] : List Keyword).isEmpty then 0 else 1) < 30)) = true := by rfl)
    (hline : (apos.endLine == cpos.line) = true := by rfl) (hst : starEach (e :: es) X.env = (false, eval e X.env) :: starEach es X.env := by rfl) (hplain : (backTo cpos (starEach es X.env)).any (·.1) = false := by rfl) :
    DE X W (.Call (.Attribute ox nm apos) (e :: es) [] cpos) (wMut i o a) := by
  obtain ⟨t, pt, l⟩ := ha.ex
  exact ⟨_, pe_bm pa slot hty hm hx pt hbase hfew hline hst hplain, le_mut i hs l⟩
theorem de_mut0 {ox : Expr} {nm : Str} {cpos apos : Pos} {id : String} {r : V → List V → Hp → VK → Prop} {o : List D → List D → (D → List D → Prop) → Prop} (i : Nat) (pa : PySem.PlainAttrs "list") (slot : PySem.Slot "list" nm id)
    (hty : typeOf (.builtin id) = pure (.type "method_descriptor")) (hm : MtR X id r) (hs : MtS r o) (hx : PE X ox (tVar i))
    (hbase : attributeBase ox nm X.env (eval ox X.env) = eval ox X.env := by rfl) (hline : (apos.endLine == cpos.line) = true := by rfl) :
    DE X W (.Call (.Attribute ox nm apos) [] [] cpos) (wMut i o waNil) :=
  ⟨_, pe_bm0 pa slot hty hm hx hbase hline, le_mut i hs la_nil⟩
/-! the methods -/
theorem ms_append : MtS rAppend (fun xs ds k => ∃ z, ds = [z] ∧ xs.length < LIM ∧ k .non (xs ++ [z])) := fun K H Hm l vs xs ws ds k Q hl hr hw q f => by
  obtain ⟨z, rfl, h1, h2⟩ := q
  cases hw with
  | cons w1 w2 =>
    cases w2
    exact ⟨l, vs, _, rfl, rfl, hl, by rw [hr.length, ← lim]; exact h1, f _ _ _ _ h2 .non (hr.append (.cons w1 .nil))⟩
theorem ms_pop : MtS rPop (fun xs ds k => ds = [] ∧ ∃ z, xs[xs.length - 1]? = some z ∧ k z xs.dropLast) := fun K H Hm l vs xs ws ds k Q hl hr hw q f => by
  obtain ⟨rfl, z, h1, h2⟩ := q
  cases hw
  obtain ⟨v, e1, e2⟩ := hr.get h1
  exact ⟨l, vs, v, rfl, rfl, hl, by rw [hr.length]; exact e1, f _ _ _ _ h2 e2 hr.dropLast⟩
theorem ms_clear : MtS rClear (fun xs ds k => ds = [] ∧ k .non []) := fun K H Hm l vs xs ws ds k Q hl hr hw q f => by
  obtain ⟨rfl, h2⟩ := q
  cases hw
  exact ⟨l, vs, rfl, rfl, hl, f _ _ _ _ h2 .non .nil⟩
theorem ms_reverse : MtS rReverse (fun xs ds k => ds = [] ∧ k .non xs.reverse) := fun K H Hm l vs xs ws ds k Q hl hr hw q f => by
  obtain ⟨rfl, h2⟩ := q
  cases hw
  exact ⟨l, vs, rfl, rfl, hl, f _ _ _ _ h2 .non hr.reverse⟩
theorem de_append {ox : Expr} {cpos apos : Pos} {e : Expr} {w : WE} (i : Nat) (hx : PE X ox (tVar i)) (ha : DE X W e w)
    (hbase : attributeBase ox "append" X.env (eval ox X.env) = eval ox X.env := by rfl) (hst : starEach [e] X.env = [(false, eval e X.env)] := by rfl) (hline : (apos.endLine == cpos.line) = true := by rfl) :
    DE X W (.Call (.Attribute ox "append" apos) [e] [] cpos) (wMut i (fun xs ds k => ∃ z, ds = [z] ∧ xs.length < LIM ∧ k .non (xs ++ [z])) (waCons w waNil)) :=
  de_mut i PySem.F.plainAttrs_list PySem.F.slot_list_append PySem.F.type_list_append mt_append ms_append hx (da_cons ha da_nil hst) hbase (by rw [hst]; rfl) hline hst rfl
theorem de_pop {ox : Expr} {cpos apos : Pos} (i : Nat) (hx : PE X ox (tVar i)) (hbase : attributeBase ox "pop" X.env (eval ox X.env) = eval ox X.env := by rfl) (hline : (apos.endLine == cpos.line) = true := by rfl) :
    DE X W (.Call (.Attribute ox "pop" apos) [] [] cpos) (wMut i (fun xs ds k => ds = [] ∧ ∃ z, xs[xs.length - 1]? = some z ∧ k z xs.dropLast) waNil) :=
  de_mut0 i PySem.F.plainAttrs_list PySem.F.slot_list_pop PySem.F.type_list_pop mt_pop ms_pop hx hbase hline
theorem de_clear {ox : Expr} {cpos apos : Pos} (i : Nat) (hx : PE X ox (tVar i)) (hbase : attributeBase ox "clear" X.env (eval ox X.env) = eval ox X.env := by rfl) (hline : (apos.endLine == cpos.line) = true := by rfl) :
    DE X W (.Call (.Attribute ox "clear" apos) [] [] cpos) (wMut i (fun xs ds k => ds = [] ∧ k .non []) waNil) :=
  de_mut0 i PySem.F.plainAttrs_list PySem.F.slot_list_clear PySem.F.type_list_clear mt_clear ms_clear hx hbase hline

/-! x[j] = v, x[j] op= v, x op= v -/
def sSetIx (i : Nat) (ix val : WE) : WS := fun ρ k => val ρ (fun d ρ1 => modL ρ1 i (fun _ _ => True) ∧ ix ρ1 (fun e ρ2 => intOf e fun j => modL ρ2 i fun xs f => ∃ n, ixN xs.length j = some n ∧ k.nx (f (xs.set n d))) k.ex) k.ex
theorem ds_setIx {o ie e : Expr} {pos tpos : Pos} {ix val : WE} (i : Nat) (ho : PE X o (tVar i)) (hi : DE X W ie ix) (hv : DE X W e val) (hs : swapsWithSole [.Subscript o ie tpos] e pos.line X.env = pure false := by rfl) (hw : swappedStores [.Subscript o ie tpos] e X.env = pure none := by rfl)
    (h1 : (assignEach [.Subscript o ie tpos] X.env).map (·.2) = [assign (.Subscript o ie tpos) X.env] := by rfl)
    (hp : ∀ v, assign (.Subscript o ie tpos) X.env v = (do
      let ov ← holding [v] (eval o X.env)
      let iv ← holding [v, ov] (eval ie X.env)
      standAt tpos
      holding [v, ov, iv] (setItem ov iv v)
      release [v, ov, iv] []) := by intro _; rfl) : DS X W (.Assign [.Subscript o ie tpos] e pos) (sSetIx i ix val) := by
  obtain ⟨ti, pi, li⟩ := hi.ex; obtain ⟨tv, pv, lv⟩ := hv.ex
  refine ⟨_, ps_asg pv (pg_sub ho pi set_list hp) hs hw h1, fun fm H σ ρ k D r hf q e => lv fm H σ ρ _ k.ex _ r q (e.xok hf) fun v H1 d ρ1 q1 g1 r1 => ?_⟩
  obtain ⟨q0, q1⟩ := q1
  obtain ⟨xs0, h0, _⟩ := modL_spec q0
  obtain ⟨l, vs0, hl, _, _⟩ := g1.rs.own_lst h0
  refine ⟨_, hl, li fm H1 σ ρ1 _ k.ex _ g1.rs q1 ((e.xok hf).to g1) fun iv H2 ed ρ2 q2 g2 r2 => ?_⟩
  cases ed <;> first | exact q2.elim | skip
  cases r2
  obtain ⟨xs, h2, n, hn, q3⟩ := modL_spec q2
  obtain ⟨l', vs, hl', hH, hr⟩ := g2.rs.own_lst h2
  rw [hl] at hl'; cases hl'
  have t3 := g2.rs.updL (ys := xs.set n d) (us := vs.set n v) hl h2 hH (hr.set (g2.go.rep r1) n)
  exact ⟨l, vs, _, n, rfl, rfl, hH, by rw [hr.length]; exact hn, e.nx _ _ _ q3 t3.rs ((g1.trans g2).trans t3).go.sub⟩
def rIxL0 (K : PySem.W.Frag) : V → V → Hp → VK → Prop := fun x y H Q => ∃ p xs i v, x = .ref p ∧ y = .int i ∧ 0 ≤ i ∧ SqL K H p xs ∧ xs[i.toNat]? = some v ∧ Q v H
theorem get_list0 : PGet X (rIxL0 X.K) := by
  intro pins s σ H o i ov iv Q I ro ri h
  obtain ⟨p, xs, j, z, rfl, rfl, h0, hq, he, q⟩ := h
  cases ro
  obtain ⟨t, rfl⟩ := ri
  obtain ⟨its, r, pl, hz⟩ := I.list hq
  obtain ⟨w, ew, rw'⟩ := r.get he
  have hl := r.length
  have hn := line63
  have hj : j.toNat < xs.length := (List.getElem?_eq_some_iff.mp he).1
  refine wpAny_getItem_list pl.isList h0 (by omega) (by simpa using ew) ?_
  exact ⟨z, H, I, rw', q⟩
def sAugIx (i : Nat) (ix : WE) (o : O2) (val : WE) : WS := fun ρ k => modL ρ i (fun _ _ => True) ∧ ix ρ (fun e ρ1 => intOf e fun j => modL ρ1 i fun xs _ => ∃ z, 0 ≤ j ∧ xs[j.toNat]? = some z ∧
  val ρ1 (fun d ρ2 => o z d fun z' => modL ρ2 i fun xs' f => xs'.length = xs.length ∧ k.nx (f (xs'.set j.toNat z'))) k.ex) k.ex
theorem ds_augIx {oe ie e : Expr} {pos tpos : Pos} {ix val : WE} {op : Operator} {r : R2} {o : O2} (i : Nat) (ho : PE X oe (tVar i)) (hi : DE X W ie ix) (hop : OpR X (inplaceOp op) r) (hos : OpS X.K r o) (hv : DE X W e val)
    (ha : ∀ ov iv new, augStore ie ov iv new = (do holding [new, ov, iv] (setItem ov iv new); release [new, ov, iv] []; pure .next) := by intros; rfl) : DS X W (.AugAssign (.Subscript oe ie tpos) op e pos) (sAugIx i ix o val) := by
  obtain ⟨ti, pi, li⟩ := hi.ex; obtain ⟨tv, pv, lv⟩ := hv.ex
  refine ⟨_, ps_augS ho pi get_list0 pv hop set_list ha, fun fm H σ ρ k D s hf q e => ?_⟩
  obtain ⟨q0, q⟩ := q
  obtain ⟨xs0, h0, _⟩ := modL_spec q0
  obtain ⟨l, vs0, hl, _, _⟩ := s.own_lst h0
  refine ⟨_, hl, li fm H σ ρ _ k.ex _ s q (e.xok hf) fun iv H1 ed ρ1 q1 g1 r1 => ?_⟩
  cases ed <;> first | exact q1.elim | skip
  rename_i jj
  cases r1
  obtain ⟨xs, h1, z, j0, hz, q2⟩ := modL_spec q1
  obtain ⟨l', vs, hl', hH, hr⟩ := g1.rs.own_lst h1
  rw [hl] at hl'; cases hl'
  obtain ⟨v, hv1, rv⟩ := hr.get hz
  refine ⟨l, vs, _, v, rfl, rfl, j0, .inl (.inl hH), hv1, lv fm H1 σ ρ1 _ k.ex _ g1.rs q2 ((e.xok hf).to g1) fun u H2 d ρ2 q3 g2 r2 => ?_⟩
  refine hos _ H2 v u z d _ _ g2.rs.trk (g2.go.rep rv) r2 q3 fun w z' H3 q4 al rw' => ?_
  obtain ⟨xs', h3, hlen, q5⟩ := modL_spec q4
  have g3 := (To.refl g2.rs).alc al
  obtain ⟨l', vs', hl', hH', hr'⟩ := g3.rs.own_lst h3
  rw [hl] at hl'; cases hl'
  have t3 := g3.rs.updL (ys := xs'.set jj.toNat z') (us := vs'.set jj.toNat w) hl h3 hH' (hr'.set rw' _)
  have hj : jj.toNat < xs.length := (List.getElem?_eq_some_iff.mp hz).1
  refine ⟨l, vs', _, _, rfl, rfl, hH', ?_, e.nx _ _ _ q5 t3.rs (((g1.trans g2).trans g3).trans t3).go.sub⟩
  rw [hr'.length, hlen]
  unfold ixN
  rw [if_pos j0, if_pos (by omega)]
def sAug (i : Nat) (o : O2) (val : WE) : WS := fun ρ k => valOf (Env.at ρ i) fun d => val ρ (fun e ρ1 => o d e fun z => putK ρ1 i (.v z) k.nx) k.ex
theorem ds_aug {i : Nat} {x : Str} {e : Expr} {op : Operator} {r : R2} {o : O2} {val : WE} {pos pos' : Pos} (hi : i ∉ W.io) (hN : X.N.Nodup) (hx : X.N[i]? = some x) (hl : Loc X.env.scope x) (hop : OpR X (inplaceOp op) r) (hos : OpS X.K r o) (hv : DE X W e val)
    (hfn : X.fn x = true ∨ X.env.scope.names.lookup x = some .local := by first | exact .inl rfl | exact .inr rfl | assumption) : DS X W (.AugAssign (.Name x pos') op e pos) (sAug i o val) := by
  obtain ⟨tv, pv, lv⟩ := hv.ex
  refine ⟨_, ps_aug (ti := r) hN hx hl pv hop hfn, fun fm H σ ρ k D s hf q e => ?_⟩
  have ss := s.sl i
  unfold sAug at q
  cases e0 : Env.at ρ i with
  | no => rw [e0] at q; exact q.elim
  | own o => rw [e0] at q; exact q.elim
  | v d =>
    rw [e0] at q ss
    cases e2 : σ.getD i none with
    | none => rw [e2] at ss; exact ss.elim
    | some v =>
      rw [e2] at ss
      refine ⟨v, getD_some e2, lv fm H σ ρ _ k.ex _ s q (e.xok hf) fun u H1 d1 ρ1 q1 g1 r1 => ?_⟩
      refine hos _ H1 v u d d1 _ _ g1.rs.trk (g1.go.rep (K := X.K) (fm := fm) ss) r1 q1 fun w z H2 q2 al rz => ?_
      have g2 := (To.refl g1.rs).alc al
      obtain ⟨h1, h2, h3⟩ := putK_spec q2
      have m := put_mo (fm := fm) (H := H2) (x := some w) (s := .v z) g2.rs.len h1
      rw [slotAs_v] at m
      exact e.nx _ H2 _ h3 (g2.rs.put h1 (io_ne hf hi) h2 rz) fun b o h => m b o ((g1.trans g2).go.sub b o h)
/-- x += ys, x a slot's own list -/
def sExt (i : Nat) (val : WE) : WS := fun ρ k => modL ρ i (fun _ _ => True) ∧ val ρ (fun e ρ1 => lstD e fun ys => modL ρ1 i fun xs f => xs.length + ys.length ≤ LIM ∧ k.nx (f (xs ++ ys))) k.ex
end
end DL

set_option Elab.async false
set_option linter.all false
set_option maxRecDepth 100000
namespace DL
open PySem L2

/-! ## readings from meanings: one reading for a meaning, in every context of the same K -/
def tOfE (K : PySem.W.Frag) (W : WW) (w : WE) : TE := fun σ H QV => ∃ (fm : Fm) (ρ : Env) (Q : D → Env → Prop) (R : KR), RS K fm H σ ρ ∧ w ρ Q R ∧ XOk K W fm σ H ρ R ∧ ∀ v H' d ρ', Q d ρ' → To K fm σ H ρ H' ρ' → Rep K (fm.hid σ ρ' H') v d → QV v H'
def tOfT (K : PySem.W.Frag) (W : WW) (w : WT) : TT := fun σ H QV => ∃ (fm : Fm) (ρ : Env) (Q : Bool → Env → Prop) (R : KR), RS K fm H σ ρ ∧ w ρ Q R ∧ XOk K W fm σ H ρ R ∧ ∀ b H' ρ', Q b ρ' → To K fm σ H ρ H' ρ' → QV b H'
theorem DE.pe {X : Cx} {W : WW} {e : Expr} {w : WE} (h : DE X W e w) : PE X e (tOfE X.K W w) := by
  obtain ⟨t, p, l⟩ := h.ex
  exact ⟨fun pins s σ H Q I ⟨fm, ρ, Qd, R, r, q, x, k⟩ => p.run pins s σ H Q I (l fm H σ ρ Qd R Q r q x k)⟩
theorem le_of (K : PySem.W.Frag) (W : WW) (w : WE) : LE K W (tOfE K W w) w := fun fm H σ ρ Q R QV r q x k => ⟨fm, ρ, Q, R, r, q, x, k⟩
theorem DT.pt {X : Cx} {W : WW} {e : Expr} {w : WT} (h : DT X W e w) : PT X e (tOfT X.K W w) := by
  obtain ⟨t, p, l⟩ := h.ex
  exact ⟨fun pins s σ H Q I ⟨fm, ρ, Qd, R, r, q, x, k⟩ => p.run pins s σ H Q I (l fm H σ ρ Qd R Q r q x k)⟩
theorem lt_of (K : PySem.W.Frag) (W : WW) (w : WT) : LT K W (tOfT K W w) w := fun fm H σ ρ Q R QV r q x k => ⟨fm, ρ, Q, R, r, q, x, k⟩

/-! ## targets -/
abbrev WG := D → Env → (Env → Prop) → Prop
/-- vs: the slots that may be stored to -/
def LG (K : PySem.W.Frag) (io vs : List Nat) (g : TG) (w : WG) : Prop :=
  ∀ (fm : Fm) (H : Hp) (σ : St) (ρ : Env) (v : V) (d : D) (Q : Env → Prop) (QV : St → Hp → Prop), RS K fm H σ ρ → (∀ p ∈ fm.F, p.1 ∈ io) → Rep K (fm.hid σ ρ H) v d → w d ρ Q →
    (∀ σ' ρ', Q ρ' → RS K fm H σ' ρ' → Mo (fm.hid σ ρ H) (fm.hid σ' ρ' H) → (∀ j, j ∉ vs → σ'[j]? = σ[j]?) → σ'.length = σ.length → QV σ' H) → g v σ H QV
structure DG (X : Cx) (io vs : List Nat) (e : Expr) (w : WG) : Prop where
  ex : ∃ g, PG X e g ∧ LG X.K io vs g w
abbrev WGs := List D → Env → (Env → Prop) → Prop
def LGs (K : PySem.W.Frag) (io vs : List Nat) (g : TGs) (w : WGs) : Prop :=
  ∀ (fm : Fm) (H : Hp) (σ : St) (ρ : Env) (us : List V) (ds : List D) (Q : Env → Prop) (QV : St → Hp → Prop), RS K fm H σ ρ → (∀ p ∈ fm.F, p.1 ∈ io) → Reps K (fm.hid σ ρ H) us ds → w ds ρ Q →
    (∀ σ' ρ', Q ρ' → RS K fm H σ' ρ' → Mo (fm.hid σ ρ H) (fm.hid σ' ρ' H) → (∀ j, j ∉ vs → σ'[j]? = σ[j]?) → σ'.length = σ.length → QV σ' H) → g us σ H QV
structure DGs (X : Cx) (io vs : List Nat) (es : List Expr) (w : WGs) : Prop where
  ex : ∃ g, PGs X es g ∧ LGs X.K io vs g w
def tgOf (K : PySem.W.Frag) (io vs : List Nat) (w : WG) : TG := fun v σ H QV => ∃ (fm : Fm) (ρ : Env) (d : D) (Q : Env → Prop), RS K fm H σ ρ ∧ (∀ p ∈ fm.F, p.1 ∈ io) ∧ Rep K (fm.hid σ ρ H) v d ∧ w d ρ Q ∧
    ∀ σ' ρ', Q ρ' → RS K fm H σ' ρ' → Mo (fm.hid σ ρ H) (fm.hid σ' ρ' H) → (∀ j, j ∉ vs → σ'[j]? = σ[j]?) → σ'.length = σ.length → QV σ' H
theorem DG.pg {X : Cx} {io vs : List Nat} {e : Expr} {w : WG} (h : DG X io vs e w) : PG X e (tgOf X.K io vs w) := by
  obtain ⟨t, p, l⟩ := h.ex
  exact ⟨fun pins s σ H v u Q I rv ⟨fm, ρ, d, Qd, r, hf, rp, q, k⟩ => p.run pins s σ H v u Q I rv (l fm H σ ρ v d Qd Q r hf rp q k)⟩
theorem lg_of (K : PySem.W.Frag) (io vs : List Nat) (w : WG) : LG K io vs (tgOf K io vs w) w := fun fm H σ ρ v d Q QV r hf rp q k => ⟨fm, ρ, d, Q, r, hf, rp, q, k⟩

section
variable {X : Cx} {W : WW} {K : PySem.W.Frag} {io vs : List Nat}
def gN (i : Nat) : WG := fun d ρ Q => putK ρ i (.v d) Q
theorem dg_name {i : Nat} {x : Str} {pos : Pos} (hi : i ∉ io) (hv : i ∈ vs) (hN : X.N.Nodup) (hx : X.N[i]? = some x) (hl : Loc X.env.scope x) (hf : X.fn x = true ∨ X.env.scope.names.lookup x = some .local := by first | exact .inl rfl | exact .inr rfl | assumption) : DG X io vs (.Name x pos) (gN i) := by
  refine ⟨_, pg_name hN hx hl hf, fun fm H σ ρ v d Q QV r hF rp q k => ?_⟩
  obtain ⟨h1, h2, h3⟩ := putK_spec q
  have m := put_mo (fm := fm) (H := H) (x := some v) (s := .v d) r.len h1
  rw [slotAs_v] at m
  exact k _ _ h3 (r.put h1 (io_ne hF hi) h2 rp) m (fun j hj => List.getElem?_set_ne (fun z => hj (by rw [← z]; exact hv))) List.length_set
def gNilD : WGs := fun ds ρ Q => ds = [] ∧ Q ρ
def gConsD (g : WG) (r : WGs) : WGs := fun ds ρ Q => match ds with | d :: ds => g d ρ fun ρ1 => r ds ρ1 Q | [] => False
theorem dgs_nil : DGs X io vs [] gNilD := ⟨_, pgs_nil, fun fm H σ ρ us ds Q QV r hF rp q k => by
  obtain ⟨rfl, q⟩ := q
  cases rp
  exact ⟨rfl, k σ ρ q r (fun _ _ h => h) (fun _ _ => rfl) rfl⟩⟩
theorem dgs_cons {e : Expr} {es : List Expr} {g : WG} {r : WGs} (hg : DG X io vs e g) (hr : DGs X io vs es r) (hs : (assignEach (e :: es) X.env).map (·.2) = assign e X.env :: (assignEach es X.env).map (·.2) := by rfl) : DGs X io vs (e :: es) (gConsD g r) := by
  obtain ⟨t, p, l⟩ := hg.ex; obtain ⟨t', p', l'⟩ := hr.ex
  refine ⟨_, pgs_cons p p' hs, fun fm H σ ρ us ds Q QV r hF rp q k => ?_⟩
  cases rp with
  | nil => exact q.elim
  | cons r1 r2 =>
    refine ⟨_, _, rfl, l fm H σ ρ _ _ _ _ r hF r1 q fun σ1 ρ1 q1 s1 m1 e1 n1 => l' fm H σ1 ρ1 _ _ Q QV s1 hF (r2.mono m1) q1 fun σ2 ρ2 q2 s2 m2 e2 n2 => k σ2 ρ2 q2 s2 (fun b o h => m2 b o (m1 b o h)) (fun j hj => (e2 j hj).trans (e1 j hj)) (n2.trans n1)⟩
def gTupD (n : Nat) (r : WGs) : WG := fun d ρ Q => tupD d fun xs => xs.length = n ∧ r xs ρ Q
theorem dg_tup {es : List Expr} {kk : Nat} {pos : Pos} {r : WGs} {n : Nat} (hc : X.calm = true) (h : DGs X io vs es r) (hn : (assignEach es X.env).length = n := by rfl) (hst : (assignEach es X.env).findIdx? (·.1) = none := by rfl) : DG X io vs (.Tuple es kk pos) (gTupD n r) := by
  obtain ⟨t, p, l⟩ := h.ex
  refine ⟨_, pg_tup hc p hn hst, fun fm H σ ρ v d Q QV r hF rp q k => ?_⟩
  cases d <;> first | exact q.elim | skip
  obtain ⟨a, us, rfl, h1, h2⟩ := rp.tup_inv
  exact ⟨a, us, rfl, sqT_mono hid_le h1, by rw [h2.length]; exact q.1, l fm H σ ρ us _ Q QV r hF h2 q.2 k⟩
/-- target = value -/
def sAsg (a : WE) (g : WG) : WS := fun ρ k => a ρ (fun d ρ1 => g d ρ1 k.nx) k.ex
theorem ds_asg {tg e : Expr} {a : WE} {g : WG} {pos : Pos} (ha : DE X W e a) (hg : DG X W.io vs tg g) (hs : swapsWithSole [tg] e pos.line X.env = pure false := by rfl) (hw : swappedStores [tg] e X.env = pure none := by rfl)
    (h1 : (assignEach [tg] X.env).map (·.2) = [assign tg X.env] := by rfl) : DS X W (.Assign [tg] e pos) (sAsg a g) := by
  obtain ⟨t, p, l⟩ := ha.ex; obtain ⟨t', p', l'⟩ := hg.ex
  refine ⟨_, ps_asg p p' hs hw h1, fun fm H σ ρ k D r hf q e => l fm H σ ρ _ k.ex _ r q (e.xok hf) fun v H1 d ρ1 q1 g1 r1 => l' fm H1 σ ρ1 v d _ _ g1.rs hf r1 q1 fun σ2 ρ2 q2 s2 m2 _ _ => e.nx σ2 H1 ρ2 q2 s2 fun b o h => m2 b o (g1.go.sub b o h)⟩

/-! ## what is walked -/
abbrev WI := Env → (List D → Env → Prop) → KR → Prop
/-- n turns that give ds, whatever is hidden, while what was seen is seen -/
def WalkD (K : PySem.W.Frag) (J : It) (Hb : Hp) (ds : List D) : Prop :=
  ∀ (A : List Addr) (H : Hp), Mo Hb (hide A H) → (∀ a ∈ A, H a ≠ none) → J.stop ds.length H ∧ ∀ (i : Nat) (d : D), ds[i]? = some d → J.go i H ∧ ∀ x H', J.yld i H x H' → Alc H H' ∧ Rep K (hide A H') x d
def LI (K : PySem.W.Frag) (W : WW) (t : TI) (w : WI) : Prop :=
  ∀ (fm : Fm) (H : Hp) (σ : St) (ρ : Env) (Q : List D → Env → Prop) (R : KR) (RI : It → Hp → Prop), RS K fm H σ ρ → w ρ Q R → XOk K W fm σ H ρ R →
    (∀ J H' ds ρ', Q ds ρ' → To K fm σ H ρ H' ρ' → WalkD K J (fm.hid σ ρ' H') ds → RI J H') → t σ H RI
structure DI (X : Cx) (W : WW) (tg iter : Expr) (w : WI) : Prop where
  ex : ∃ t, PI X tg iter t ∧ LI X.K W t w
theorem Reps.mem {H : Hp} {us : List V} {ds : List D} (h : Reps K H us ds) {i : Nat} {d : D} (e : ds[i]? = some d) : ∃ v, us[i]? = some v ∧ Rep K H v d := h.get e
theorem walkD_of {J : It} {us : List V} {ds : List D} {Hb : Hp} {G : Hp → Prop} (w : Walk J us.length G (YAt us)) (h : Reps K Hb us ds) (hG : ∀ A H, Mo Hb (hide A H) → G H) : WalkD K J Hb ds := fun A H m tr => by
  have g := hG A H m
  refine ⟨by rw [← h.length]; exact w.stops H g, fun i d e => ?_⟩
  have hi : i < us.length := by rw [h.length]; exact (List.getElem?_eq_some_iff.mp e).1
  refine ⟨w.goes i H hi g, fun x H' y => ?_⟩
  obtain ⟨e1, e2⟩ := w.yields i H x H' hi g y
  subst e1
  obtain ⟨v, e3, r⟩ := h.get e
  rw [e2] at e3; cases e3
  exact ⟨.refl _, r.mono m⟩
def wIter (a : WE) : WI := fun ρ Q R => a ρ (fun d ρ1 => lstD d fun xs => Q xs ρ1) R
theorem di_list {tg l : Expr} {a : WE} (ha : DE X W l a) : DI X W tg l (wIter a) := by
  obtain ⟨t, p, h⟩ := ha.ex
  refine ⟨_, pi_list p, fun fm H σ ρ Q R RI r q x k => h fm H σ ρ _ R _ r q x fun v H1 d ρ1 q1 g1 r1 => ?_⟩
  cases d <;> first | exact q1.elim | skip
  obtain ⟨b, us, rfl, h1, h2⟩ := r1.lst_inv
  exact ⟨b, rfl, ⟨us, .inl (rd_mono hid_le h1)⟩, k _ H1 _ ρ1 q1 g1 (walkD_of walk_list h2 fun A H2 m => .inl (rd_mono (fun c o e => hid_le c o (m c o e)) h1))⟩
def wIterT (a : WE) : WI := fun ρ Q R => a ρ (fun d ρ1 => tupD d fun xs => Q xs ρ1) R
theorem di_tup {tg l : Expr} {a : WE} (ha : DE X W l a) : DI X W tg l (wIterT a) := by
  obtain ⟨t, p, h⟩ := ha.ex
  refine ⟨_, pi_tup p, fun fm H σ ρ Q R RI r q x k => h fm H σ ρ _ R _ r q x fun v H1 d ρ1 q1 g1 r1 => ?_⟩
  cases d <;> first | exact q1.elim | skip
  obtain ⟨b, us, rfl, h1, h2⟩ := r1.tup_inv
  exact ⟨b, rfl, ⟨us, sqT_mono hid_le h1⟩, k _ H1 _ ρ1 q1 g1 (walkD_of walk_tup h2 fun A H2 m => sqT_mono (fun c o e => hid_le c o (m c o e)) h1)⟩
/-- lo, lo + 1, .. : n ints -/
def rangeD (lo : Int) : Nat → List D
  | 0 => []
  | n + 1 => .int lo :: rangeD (lo + 1) n
theorem rangeD_length : ∀ (n : Nat) (lo : Int), (rangeD lo n).length = n
  | 0, _ => rfl
  | n + 1, lo => congrArg Nat.succ (rangeD_length n (lo + 1))
theorem rangeD_get : ∀ (n : Nat) (lo : Int) (i : Nat), i < n → (rangeD lo n)[i]? = some (.int (lo + i))
  | n + 1, lo, 0, _ => by simp [rangeD]
  | n + 1, lo, i + 1, h => by
    have := rangeD_get n (lo + 1) i (by omega)
    simp only [rangeD, List.getElem?_cons_succ, this]
    congr 2; omega
theorem walkD_range {lo : Int} {n : Nat} {Hb : Hp} : WalkD K (Itr lo n) Hb (rangeD lo n) := fun A H m tr => by
  refine ⟨by rw [rangeD_length]; exact Nat.le_refl _, fun i d e => ?_⟩
  have hi : i < n := by have := (List.getElem?_eq_some_iff.mp e).1; rwa [rangeD_length] at this
  refine ⟨hi, fun x H' y => ?_⟩
  obtain ⟨e1, e2⟩ := y
  subst e1 e2
  rw [rangeD_get n lo i hi] at e
  cases e
  exact ⟨.refl _, .int _⟩
def wRng1 (a : WA) : WI := fun ρ Q R => a ρ (fun ds ρ1 => match ds with | [.int j] => (-(2 ^ 62) ≤ j ∧ j < 2 ^ 62) ∧ Q (rangeD 0 j.toNat) ρ1 | _ => False) R
theorem di_range1 {tg e : Expr} {p pos : Pos} {a : WA} (hg : Gl X "range") (hm : X.mg "range" = none) (ha : DA X W [e] a) (hs : starEach [e] X.env = [(false, eval e X.env)] := by rfl) : DI X W tg (.Call (.Name "range" p) [e] [] pos) (wRng1 a) := by
  obtain ⟨t, pt, h⟩ := ha.ex
  refine ⟨_, pi_range1 hg hm pt hs, fun fm H σ ρ Q R RI r q x k => h fm H σ ρ _ R _ r q x fun vs H1 ds ρ1 q1 g1 r1 => ?_⟩
  match ds, q1, r1 with
  | [.int j], q1, .cons (.int _) .nil => exact ⟨j, rfl, q1.1.1, q1.1.2, k _ H1 _ ρ1 q1.2 g1 walkD_range⟩
def wRng2 (a : WA) : WI := fun ρ Q R => a ρ (fun ds ρ1 => match ds with | [.int i, .int j] => ((-(2 ^ 62) ≤ i ∧ i < 2 ^ 62) ∧ (-(2 ^ 62) ≤ j ∧ j < 2 ^ 62)) ∧ Q (rangeD i (j - i).toNat) ρ1 | _ => False) R
theorem di_range2 {tg e1 e2 : Expr} {p pos : Pos} {a : WA} (hg : Gl X "range") (hm : X.mg "range" = none) (ha : DA X W [e1, e2] a) (hs : starEach [e1, e2] X.env = [(false, eval e1 X.env), (false, eval e2 X.env)] := by rfl) (hs2 : starEach [e2] X.env = [(false, eval e2 X.env)] := by rfl) : DI X W tg (.Call (.Name "range" p) [e1, e2] [] pos) (wRng2 a) := by
  obtain ⟨t, pt, h⟩ := ha.ex
  refine ⟨_, pi_range2 hg hm pt hs hs2, fun fm H σ ρ Q R RI r q x k => h fm H σ ρ _ R _ r q x fun vs H1 ds ρ1 q1 g1 r1 => ?_⟩
  match ds, q1, r1 with
  | [.int i, .int j], q1, .cons (.int _) (.cons (.int _) .nil) => exact ⟨i, j, rfl, ⟨q1.1.1.1, q1.1.1.2, q1.1.2.1, q1.1.2.2⟩, k _ H1 _ ρ1 q1.2 g1 walkD_range⟩
/-- pairs of the number and the item -/
def enumD : Nat → List D → List D
  | _, [] => []
  | i, d :: ds => .tup [.int (i : Nat), d] :: enumD (i + 1) ds
theorem enumD_length : ∀ (ds : List D) (i : Nat), (enumD i ds).length = ds.length
  | [], _ => rfl
  | _ :: ds, i => congrArg Nat.succ (enumD_length ds (i + 1))
theorem enumD_get : ∀ (ds : List D) (i j : Nat) (d : D), ds[j]? = some d → (enumD i ds)[j]? = some (.tup [.int ((i + j : Nat) : Int), d])
  | d :: ds, i, 0, _, h => by simp at h; subst h; simp [enumD]
  | _ :: ds, i, j + 1, d, h => by
    have := enumD_get ds (i + 1) j d (by simpa using h)
    simp only [enumD, List.getElem?_cons_succ, this]
    have e : i + 1 + j = i + (j + 1) := by omega
    rw [e]
theorem rep_pair {A : List Addr} {H : Hp} {T : Addr} {x y : V} {d e : D} (hT : H T = none) (tr : ∀ a ∈ A, H a ≠ none) (rx : Rep K (hide A H) x d) (ry : Rep K (hide A H) y e) : Rep K (hide A (upd H T (.tup [x, y]))) (.ref T) (.tup [d, e]) :=
  .tup (.inl (.inl (by rw [hide_out (fun z => tr T z hT)]; exact upd_same))) (.cons (rep_up hT rx) (.cons (rep_up hT ry) .nil))
def wEnum (a : WA) : WI := fun ρ Q R => a ρ (fun ds ρ1 => match ds with | [.lst xs] => Q (enumD 0 xs) ρ1 | _ => False) R
theorem di_enum {elts : List Expr} {kk : Nat} {tpos p pos : Pos} {e : Expr} {a : WA} (hg : Gl X "enumerate") (hm : X.mg "enumerate" = none) (ha : DA X W [e] a) (hi : ∀ t, PA X [e] t → PI X (.Tuple elts kk tpos) (.Call (.Name "enumerate" p) [e] [] pos) (iEnum X.K t)) : DI X W (.Tuple elts kk tpos) (.Call (.Name "enumerate" p) [e] [] pos) (wEnum a) := by
  obtain ⟨t, pt, h⟩ := ha.ex
  refine ⟨_, hi t pt, fun fm H σ ρ Q R RI r q x k => h fm H σ ρ _ R _ r q x fun vs H1 ds ρ1 q1 g1 r1 => ?_⟩
  match ds, q1, r1 with
  | [.lst xs], q1, .cons r1 .nil =>
    obtain ⟨b, us, rfl, h1, h2⟩ := r1.lst_inv
    refine ⟨b, us, rfl, .inl (rd_mono hid_le h1), k _ H1 _ ρ1 q1 g1 fun A H2 m tr => ?_⟩
    have sq : SqL X.K H2 b us := .inl (rd_mono (fun c o e => hid_le c o (m c o e)) h1)
    refine ⟨by rw [enumD_length, ← h2.length]; exact walk_enum.stops H2 sq, fun i d e => ?_⟩
    have hi : i < xs.length := by have := (List.getElem?_eq_some_iff.mp e).1; rwa [enumD_length] at this
    have hi' : i < us.length := by rw [h2.length]; exact hi
    refine ⟨walk_enum.goes i H2 hi' sq, fun y H' yy => ?_⟩
    obtain ⟨T, x1, y1, rfl, hT, rfl, e1, e2⟩ := walk_enum.yields i H2 y H' hi' sq yy
    cases e1
    rw [enumD_get xs 0 i xs[i] (by simp [hi])] at e
    cases e
    obtain ⟨v, e3, rv⟩ := h2.getV e2
    have : xs[i] = v := by rw [List.getElem?_eq_getElem hi] at e3; exact Option.some.inj e3
    subst this
    refine ⟨.one hT (fun _ _ _ z => nomatch z), rep_pair hT tr ?_ (rv.mono m)⟩
    rw [Nat.zero_add]; exact .int _

/-! ## for -/
def forGo (g : WG) (b : WS) : List D → Env → KS → Prop
  | [], ρ, k => k.nx ρ
  | d :: ds, ρ, k => g d ρ fun ρ1 => b ρ1 { k with nx := fun ρ2 => forGo g b ds ρ2 k, ct := fun ρ2 => forGo g b ds ρ2 k, bk := k.nx }
def sFor (i : WI) (g : WG) (b : WS) : WS := fun ρ k => i ρ (fun ds ρ1 => forGo g b ds ρ1 k) k.ex
theorem ls_for {wi : TI} {tg : TG} {tb : TS} {i : WI} {g : WG} {b : WS} (hi : LI K W wi i) (hg : LG K W.io vs tg g) (hb : LS K W tb b) : LS K W (tFor wi tg tb) (sFor i g b) := fun fm H σ ρ k D r hf q e =>
  hi fm H σ ρ _ k.ex _ r q (e.xok hf) fun J H1 ds ρ1 q1 g1 wk => by
    refine ⟨fun j m σ' H' => m = ds.length - j ∧ j ≤ ds.length ∧ ∃ ρ', RS K fm H' σ' ρ' ∧ Mo (fm.hid σ ρ1 H1) (fm.hid σ' ρ' H') ∧ forGo g b (ds.drop j) ρ' k, ⟨_, rfl, Nat.zero_le _, ρ1, g1.rs, fun _ _ h => h, q1⟩, ?_⟩
    rintro j m σ' H' ⟨rfl, hj, ρ', s', mo, q'⟩
    obtain ⟨st, tn⟩ := wk _ H' mo s'.trk
    by_cases hlt : j < ds.length
    · have hd : ds.drop j = ds[j] :: ds.drop (j + 1) := List.drop_eq_getElem_cons hlt
      rw [hd] at q'
      obtain ⟨go, yl⟩ := tn j ds[j] (List.getElem?_eq_getElem hlt)
      refine .inr ⟨go, fun σ2 H2 => ∃ ρ2, RS K fm H2 σ2 ρ2 ∧ Mo (fm.hid σ ρ1 H1) (fm.hid σ2 ρ2 H2) ∧ forGo g b (ds.drop (j + 1)) ρ2 k, fun σ2 H2 ⟨ρ2, s2, m2, q2⟩ => ⟨ds.length - (j + 1), by omega, rfl, hlt, ρ2, s2, m2, q2⟩, fun x H2 y => ?_⟩
      obtain ⟨al, rp⟩ := yl x H2 y
      have t2 := (To.refl s').alc al
      refine hg fm H2 σ' ρ' x _ _ _ t2.rs hf rp q' fun σ3 ρ3 q3 s3 m3 _ _ => hb fm H2 σ3 ρ3 _ _ s3 hf q3 ?_
      have mm : Mo (fm.hid σ ρ1 H1) (fm.hid σ3 ρ3 H2) := fun c o h => m3 c o (t2.go.sub c o (mo c o h))
      have mH : Mo (fm.hid σ ρ H) (fm.hid σ3 ρ3 H2) := fun c o h => mm c o (g1.go.sub c o h)
      exact ⟨fun σ4 H4 ρ4 q4 s4 m4 => ⟨ρ4, s4, fun c o h => m4 c o (mm c o h), q4⟩, (e.base mH).rt, fun σ4 H4 ρ4 q4 s4 m4 => (e.base mH).nx σ4 H4 ρ4 q4 s4 m4, fun σ4 H4 ρ4 q4 s4 m4 => ⟨ρ4, s4, fun c o h => m4 c o (mm c o h), q4⟩, (e.base mH).ex⟩
    · have ej : j = ds.length := by omega
      subst ej
      rw [List.drop_length] at q'
      exact .inl ⟨st, e.nx σ' H' ρ' q' s' fun c o h => mo c o (g1.go.sub c o h)⟩
theorem ds_for {tg iter : Expr} {body : List Stmt} {pos : Pos} {i : WI} {g : WG} {b : WS} (hp : PassesOwn (model X.prog X.w) X.A X.env X.xe) (hc : X.calm = true) (hi : DI X W tg iter i) (hg : DG X W.io vs tg g) (hb : DB X W body b) (hs : ∀ x, foldedSetIterable iter X.env x = pure x := by intro _; rfl) :
    DS X W (.For tg iter body [] pos) (sFor i g b) := by
  obtain ⟨t1, p1, l1⟩ := hi.ex; obtain ⟨t2, p2, l2⟩ := hg.ex; obtain ⟨t3, p3, l3⟩ := hb.ex
  exact ⟨_, ps_for hp hc p1 p2 p3 hs, ls_for l1 l2 l3⟩
/-- a loop by an invariant over what is left -/
theorem forGo_inv {g : WG} {b : WS} {k : KS} (I : List D → Env → Prop) (step : ∀ d ds ρ, I (d :: ds) ρ → ∀ P : Env → Prop, (∀ ρ', I ds ρ' → P ρ') → g d ρ fun ρ1 => b ρ1 { k with nx := P, ct := P, bk := k.nx })
    (fin : ∀ ρ, I [] ρ → k.nx ρ) : ∀ ds ρ, I ds ρ → forGo g b ds ρ k
  | [], ρ, h => fin ρ h
  | d :: ds, ρ, h => step d ds ρ h _ fun ρ' h' => forGo_inv I step fin ds ρ' h'
/-- .. over the turn's number, where ints are walked -/
theorem forGo_range {g : WG} {b : WS} {k : KS} (I : Nat → Env → Prop) {n : Nat} : ∀ (m i : Nat) (lo : Int) (ρ : Env), i + m = n → I i ρ →
    (step : ∀ j ρ, i ≤ j → j < n → I j ρ → ∀ P : Env → Prop, (∀ ρ', I (j + 1) ρ' → P ρ') → g (.int (lo + (j - i : Nat))) ρ fun ρ1 => b ρ1 { k with nx := P, ct := P, bk := k.nx }) → (fin : ∀ ρ, I n ρ → k.nx ρ) → forGo g b (rangeD lo m) ρ k
  | 0, i, lo, ρ, e, h, step, fin => by
    have : i = n := by omega
    subst this; exact fin ρ h
  | m + 1, i, lo, ρ, e, h, step, fin => by
    have s0 := step i ρ (Nat.le_refl _) (by omega) h _ fun ρ' h' => forGo_range I m (i + 1) (lo + 1) ρ' (by omega) h' (fun j ρ h1 h2 h3 P hP => by
      have := step j ρ (by omega) h2 h3 P hP
      have e1 : lo + ((j - i : Nat) : Int) = lo + 1 + ((j - (i + 1) : Nat) : Int) := by omega
      rwa [e1] at this) fin
    have e0 : lo + ((i - i : Nat) : Int) = lo := by omega
    rw [e0] at s0
    exact s0
/-! ## while -/
def sWhile (c : WT) (b : WS) : WS := fun ρ k => ∃ I : Nat → Env → Prop, (∃ m, I m ρ) ∧ ∀ m ρ, I m ρ → c ρ (fun t ρ1 => (t = true → b ρ1 { k with nx := fun ρ2 => ∃ m', m' < m ∧ I m' ρ2, ct := fun ρ2 => ∃ m', m' < m ∧ I m' ρ2, bk := k.nx }) ∧ (t = false → k.nx ρ1)) k.ex
theorem ls_while {tc : TT} {tb : TS} {c : WT} {b : WS} (hc : LT K W tc c) (hb : LS K W tb b) : LS K W (tWhile tc tb) (sWhile c b) := fun fm H σ ρ k D r hf q e => by
  obtain ⟨I, ⟨m0, i0⟩, turn⟩ := q
  refine ⟨fun m σ' H' => ∃ ρ', RS K fm H' σ' ρ' ∧ Mo (fm.hid σ ρ H) (fm.hid σ' ρ' H') ∧ I m ρ', ⟨m0, ρ, r, fun _ _ h => h, i0⟩, ?_⟩
  rintro m σ' H' ⟨ρ', s', mo, i'⟩
  refine hc fm H' σ' ρ' _ k.ex _ s' (turn m ρ' i') ((e.base mo).xok hf) fun t H2 ρ2 q2 g2 => ?_
  have m2 : Mo (fm.hid σ ρ H) (fm.hid σ' ρ2 H2) := fun c o h => g2.go.sub c o (mo c o h)
  cases t with
  | false => exact e.nx σ' H2 ρ2 (q2.2 rfl) g2.rs m2
  | true =>
    refine ⟨fun σ3 H3 => ∃ m', m' < m ∧ ∃ ρ3, RS K fm H3 σ3 ρ3 ∧ Mo (fm.hid σ ρ H) (fm.hid σ3 ρ3 H3) ∧ I m' ρ3, fun σ3 H3 ⟨m', lt, w⟩ => ⟨m', lt, w⟩, hb fm H2 σ' ρ2 _ _ g2.rs hf (q2.1 rfl) ?_⟩
    exact ⟨fun σ4 H4 ρ4 ⟨m', lt, i4⟩ s4 m4 => ⟨m', lt, ρ4, s4, fun c o h => m4 c o (m2 c o h), i4⟩, (e.base m2).rt, fun σ4 H4 ρ4 q4 s4 m4 => (e.base m2).nx σ4 H4 ρ4 q4 s4 m4, fun σ4 H4 ρ4 ⟨m', lt, i4⟩ s4 m4 => ⟨m', lt, ρ4, s4, fun c o h => m4 c o (m2 c o h), i4⟩, (e.base m2).ex⟩
theorem ds_while {c : Expr} {body : List Stmt} {pos : Pos} {t : WT} {b : WS} (hp : PassesOwn (model X.prog X.w) X.A X.env X.xe) (hc : DT X W c t) (hb : DB X W body b) : DS X W (.While c body [] pos) (sWhile t b) := by
  obtain ⟨t1, p1, l1⟩ := hc.ex; obtain ⟨t2, p2, l2⟩ := hb.ex
  exact ⟨_, ps_while hp p1 p2, ls_while l1 l2⟩
end
end DL

set_option Elab.async false
set_option linter.all false
set_option maxRecDepth 100000
namespace DL
open PySem L2

/-! ## comprehensions -/
def wipeE (ρ : Env) : List Nat → Env
  | [] => ρ
  | v :: vs => Env.put (wipeE ρ vs) v .no
def wipeK (ρ : Env) : List Nat → (Env → Prop) → Prop
  | [], k => k ρ
  | v :: vs, k => wipeK ρ vs fun ρ' => putK ρ' v .no k
theorem wipeE_len (ρ : Env) : ∀ vs, (wipeE ρ vs).length = ρ.length
  | [] => rfl
  | v :: vs => by show (Env.put _ v .no).length = _; rw [Env.put_len, wipeE_len ρ vs]
theorem wipeK_spec {ρ : Env} : ∀ {vs : List Nat} {k : Env → Prop}, wipeK ρ vs k → k (wipeE ρ vs) ∧ ∀ {K : PySem.W.Frag} {fm : Fm} {H : Hp} {σ : St}, RS K fm H σ ρ → (∀ p ∈ fm.F, p.1 ∉ vs) →
    RS K fm H (wipe σ vs) (wipeE ρ vs) ∧ Mo (fm.hid σ ρ H) (fm.hid (wipe σ vs) (wipeE ρ vs) H) ∧ (∀ a ∈ owned (wipe σ vs) (wipeE ρ vs), a ∈ owned σ ρ)
  | [], k, h => ⟨h, fun r _ => ⟨r, fun _ _ h => h, fun _ h => h⟩⟩
  | v :: vs, k, h => by
    obtain ⟨h1, h2⟩ := wipeK_spec (vs := vs) h
    obtain ⟨p1, p2, p3⟩ := putK_spec h1
    refine ⟨p3, fun {K fm H σ} r hF => ?_⟩
    obtain ⟨r1, m1, s1⟩ := h2 r fun p hp z => hF p hp (List.mem_cons_of_mem _ z)
    have r2 : RS K fm H ((wipe σ vs).set v none) (Env.put (wipeE ρ vs) v .no) := r1.put p1 (fun p hp e => hF p hp (by rw [e]; exact List.mem_cons_self)) p2 trivial
    have m2 := put_mo (fm := fm) (H := H) (x := none) (s := .no) r1.len p1
    rw [slotAs_no] at m2
    exact ⟨r2, fun b o h => m2 b o (m1 b o h), fun a ha => s1 a ((owned_none_sub (wipe σ vs) (wipeE ρ vs) v).subset ha)⟩
theorem owned_wipe (x : Option V) : ∀ (σ : St) (ρ : Env) (v : Nat), owned (σ.set v x) (Env.put ρ v .no) = owned σ (Env.put ρ v .no)
  | [], _, _ => by simp
  | _ :: _, [], v => by cases v <;> simp [owned, Env.put]
  | y :: σ, t :: ρ, 0 => by
    show slotAs x .no ++ owned σ ρ = slotAs y .no ++ owned σ ρ
    rw [slotAs_no, slotAs_no]
  | y :: σ, t :: ρ, v + 1 => congrArg (slotAs y t ++ ·) (owned_wipe x σ ρ v)
theorem at_wipeE {ρ : Env} {j : Nat} : ∀ {vs : List Nat}, (∀ v ∈ vs, v < ρ.length) → Env.at (wipeE ρ vs) j = if j ∈ vs then .no else Env.at ρ j
  | [], _ => rfl
  | v :: vs, h => by
    show Env.at (Env.put (wipeE ρ vs) v .no) j = _
    rw [Env.at_put _ _ _ _ (by rw [wipeE_len]; exact h v List.mem_cons_self), at_wipeE fun u hu => h u (List.mem_cons_of_mem _ hu)]
    by_cases e : j = v
    · subst e; simp
    · by_cases e2 : j ∈ vs <;> simp [e, e2]
theorem wipe_lt {ρ : Env} : ∀ {vs : List Nat} {k : Env → Prop}, wipeK ρ vs k → ∀ v ∈ vs, v < ρ.length
  | [], _, _ => fun _ h => nomatch h
  | v :: vs, k, h => fun u hu => by
    have := wipe_lt (vs := vs) h
    obtain ⟨h1, _⟩ := wipeK_spec (vs := vs) h
    rcases List.mem_cons.mp hu with e | hu
    · subst e; have := (putK_spec h1).1; rwa [wipeE_len] at this
    · exact this u hu
/-- where nothing is known of a slot, it may hold anything -/
theorem RS.any {K : PySem.W.Frag} {fm : Fm} {H : Hp} {σ : St} {ρ : Env} (r : RS K fm H σ ρ) {i : Nat} {x : Option V} (hn : Env.at ρ i = .no) (hF : ∀ p ∈ fm.F, p.1 ≠ i) : RS K fm H (σ.set i x) ρ ∧ owned (σ.set i x) ρ = owned σ ρ := by
  have e : owned (σ.set i x) ρ = owned σ ρ := by
    have := owned_wipe x σ ρ i
    have pe : Env.put ρ i .no = ρ := by rw [← hn]; exact put_at ρ i
    rwa [pe] at this
  refine ⟨⟨by rw [List.length_set]; exact r.len, fun j => ?_, by rw [e]; exact r.nd, by rw [e]; exact r.tr, r.ins, by rw [e]; exact r.cl, by rw [e]; exact r.co, r.keep, fun p hp => by rw [List.getElem?_set_ne (fun z => hF p hp z.symm)]; exact r.fx p hp⟩, e⟩
  show SlotOk K (hide (fm.E ++ owned (σ.set i x) ρ) H) H _ _
  rw [e]
  by_cases h : i < σ.length
  · rw [getD_set h]
    by_cases q : j = i
    · subst q; rw [hn]; cases (if j = j then x else σ.getD j none) <;> trivial
    · rw [if_neg q]; exact r.sl j
  · rw [List.set_eq_of_length_le (by omega)]; exact r.sl j
theorem RS.unwipe {K : PySem.W.Frag} {fm : Fm} {H : Hp} {σ : St} {ρ : Env} : ∀ {vs : List Nat}, RS K fm H (wipe σ vs) ρ → (∀ v ∈ vs, Env.at ρ v = .no) → (∀ p ∈ fm.F, p.1 ∉ vs) → RS K fm H σ ρ ∧ owned (wipe σ vs) ρ = owned σ ρ
  | [], r, _, _ => ⟨r, rfl⟩
  | v :: vs, r, h, hF => by
    -- set slot v back to what it was
    have hv := h v List.mem_cons_self
    obtain ⟨r1, e1⟩ := r.any (x := (wipe σ vs).getD v none) hv (fun p hp e => hF p hp (by rw [e]; exact List.mem_cons_self))
    have e2 : ((wipe σ (v :: vs)).set v ((wipe σ vs).getD v none)) = wipe σ vs := by
      show ((wipe σ vs).set v none).set v _ = _
      rw [List.set_set]
      by_cases hl : v < (wipe σ vs).length
      · rw [List.getD_eq_getElem?_getD, List.getElem?_eq_getElem hl]; simp
      · rw [List.set_eq_of_length_le (by omega)]
    rw [e2] at r1 e1
    obtain ⟨r2, e3⟩ := RS.unwipe r1 (fun u hu => h u (List.mem_cons_of_mem _ hu)) fun p hp z => hF p hp (List.mem_cons_of_mem _ z)
    exact ⟨r2, e1.symm.trans e3⟩
theorem wipe_get {σ : St} {j : Nat} : ∀ {vs : List Nat}, (wipe σ vs)[j]? = if j ∈ vs then (if j < σ.length then some none else none) else σ[j]?
  | [] => by simp [wipe]
  | v :: vs => by
    show ((wipe σ vs).set v none)[j]? = _
    rw [List.getElem?_set, wipe_length]
    by_cases e : v = j
    · subst e; simp
    · rw [if_neg e, wipe_get (vs := vs)]
      have : j ∈ v :: vs ↔ j ∈ vs := ⟨fun h => (List.mem_cons.mp h).resolve_left fun z => e z.symm, List.mem_cons_of_mem _⟩
      simp only [this]
theorem wipe_eq {σ σ' : St} {vs : List Nat} (h : ∀ j, j ∉ vs → σ'[j]? = σ[j]?) (hl : σ'.length = σ.length) : wipe σ' vs = wipe σ vs := by
  apply List.ext_getElem?
  intro j
  rw [wipe_get, wipe_get, hl]
  by_cases e : j ∈ vs
  · rw [if_pos e, if_pos e]
  · rw [if_neg e, if_neg e]; exact h j e

def compGo (g : WG) (t : WT) (e : WE) (vs : List Nat) : List D → List D → Env → (List D → Env → Prop) → Prop
  | [], acc, ρ, Q => Q acc ρ
  | d :: ds, acc, ρ, Q => g d ρ fun ρ1 => t ρ1 (fun b ρ2 => (b = true → e ρ2 (fun y ρ3 => acc.length < LIM ∧ wipeK ρ3 vs fun ρ4 => compGo g t e vs ds (acc ++ [y]) ρ4 Q) fun _ _ => False) ∧ (b = false → wipeK ρ2 vs fun ρ4 => compGo g t e vs ds acc ρ4 Q)) fun _ _ => False
def wComp (i : WI) (g : WG) (t : WT) (e : WE) (vs : List Nat) : WO := fun ρ Q R => i ρ (fun ds ρ1 => wipeK ρ1 vs fun ρ2 => compGo g t e vs ds [] ρ2 fun acc ρ3 => Q (.lst acc) ρ3) R
abbrev WW.no (W : WW) : WW := ⟨fun _ _ _ _ => False, W.io⟩
def wYes : WT := fun ρ Q _ => Q true ρ
theorem RS.newE' {K : PySem.W.Frag} {fm : Fm} {H : Hp} {σ : St} {ρ : Env} (r : RS K fm H σ ρ) {p : Addr} {xs : List V} (hp : H p = none) : RS K (fm.ex [p]) (upd H p (.lst xs)) σ ρ := r.newE hp trivial (fun _ _ _ z => nomatch z) fun _ z => nomatch z
/-- a hidden list is another one now -/
theorem RS.hidUpd {K : PySem.W.Frag} {fm : Fm} {H : Hp} {σ : St} {ρ : Env} {p : Addr} {xs ys : List V} (r : RS K (fm.ex [p]) H σ ρ) (hp : H p = some (.lst xs)) : RS K (fm.ex [p]) (upd H p (.lst ys)) σ ρ ∧ (fm.ex [p]).hid σ ρ (upd H p (.lst ys)) = (fm.ex [p]).hid σ ρ H := by
  have mp : p ∈ (fm.ex [p]).E ++ owned σ ρ := List.mem_append_left _ (List.mem_append_left _ List.mem_cons_self)
  have nO : p ∉ owned σ ρ := fun z => by
    have nd := r.nd
    rw [show (fm.ex [p]).E ++ owned σ ρ = [p] ++ (fm.E ++ owned σ ρ) from List.append_assoc ..] at nd
    exact (List.nodup_append.mp nd).2.2 p List.mem_cons_self p (List.mem_append_right _ z) rfl
  have hid : (fm.ex [p]).hid σ ρ (upd H p (.lst ys)) = (fm.ex [p]).hid σ ρ H := by
    funext b
    by_cases q : b ∈ (fm.ex [p]).E ++ owned σ ρ
    · exact (hide_in q).trans (hide_in q).symm
    · have nb : b ≠ p := fun z => q (z ▸ mp)
      exact ((hide_out q).trans (upd_ne nb)).trans (hide_out q).symm
  have kp : ∀ b o, b ≠ p → H b = some o → upd H p (.lst ys) b = some o := fun b o n h => (upd_ne n).trans h
  refine ⟨⟨r.len, fun j => ?_, r.nd, fun b hb => ?_, fun b C dx fs h => ?_, fun b C dx fs h => ?_, fun c b hc h => ?_, fun b o h => ?_, r.fx⟩, hid⟩
  · rw [hid]
    have s := r.sl j
    have ne : ∀ b ∈ slotAs (σ.getD j none) (Env.at ρ j), b ≠ p := fun b hb z => by
      subst z
      by_cases hj : j < ρ.length
      · exact nO (owned_mem r.len hj hb)
      · have : σ.getD j none = none := by rw [List.getD_eq_getElem?_getD, List.getElem?_eq_none (by rw [r.len]; omega)]; rfl
        rw [this] at hb; simp [slotAs] at hb
    revert s ne
    cases σ.getD j none with
    | none => cases Env.at ρ j <;> exact fun h _ => h
    | some v =>
      cases Env.at ρ j with
      | no => exact fun h _ => h
      | v d => exact fun h _ => h
      | own o =>
        cases v with
        | ref c =>
          intro s ne
          cases o with
          | lst ds => obtain ⟨ws, h1, h2⟩ := s; exact ⟨ws, kp _ _ (ne c (by simp [slotAs, ownAs])) h1, h2⟩
          | dic ks ds => obtain ⟨ws, h1, h2⟩ := s; exact ⟨ws, kp _ _ (ne c (by simp [slotAs, ownAs])) h1, h2⟩
          | ins C dx ns ds => obtain ⟨ws, h1, h2, h3, h4⟩ := s; exact ⟨ws, kp _ _ (ne c (by simp [slotAs, ownAs])) h1, h2, h3, kp _ _ (ne dx (by simp [slotAs, ownAs])) h4⟩
        | _ => exact fun h _ => h
  · obtain ⟨⟨o, h, w⟩, g⟩ := r.tr b hb
    by_cases q : b = p
    · subst q; exact ⟨⟨_, upd_same, trivial⟩, g⟩
    · exact ⟨⟨o, kp b o q h, w⟩, g⟩
  · have nb : b ≠ p := fun z => by subst z; rw [upd_same] at h; cases h
    rw [upd_ne nb] at h
    have := r.ins b C dx fs h
    exact kp _ _ (fun z => by subst z; rw [hp] at this; cases this) this
  · have nb : b ≠ p := fun z => by subst z; rw [upd_same] at h; cases h
    rw [upd_ne nb] at h
    exact r.cl b C dx fs h
  · have nc : c ≠ p := fun z => by subst z; rw [upd_same] at h; cases h
    rw [upd_ne nc] at h
    obtain ⟨h1, C, fs, h2⟩ := r.co c b hc h
    exact ⟨h1, C, fs, kp _ _ (fun z => by subst z; rw [hp] at h2; cases h2) h2⟩
  · have g := (r.tr p mp).2
    exact kp b o (fun z => by subst z; rw [show (fm.ex [b]).G b = fm.G b from rfl] at g; rw [g] at h; cases h) (r.keep b o h)
section
variable {X : Cx} {W : WW} {K : PySem.W.Frag} {vs : List Nat}
theorem lo_comp {wi : TI} {tg : TG} {tt : TT} {te : TE} {i : WI} {g : WG} {t : WT} {e : WE} (hio : ∀ v ∈ vs, v ∉ W.io) (hi : LI K W wi i) (hg : LG K W.io vs tg g) (ht : LT K W.no tt t) (he : LE K W.no te e) : LO K W (tLc wi tg tt te vs) (wComp i g t e vs) := fun fm H σ ρ Q R QV r q x k =>
  hi fm H σ ρ _ R _ r q x fun J H1 ds ρ1 q1 g1 wk => by
    intro D hD
    have hF : ∀ p ∈ fm.F, p.1 ∉ vs := fun p hp z => hio _ z (x.io p hp)
    obtain ⟨q2, wp⟩ := wipeK_spec q1
    obtain ⟨w1, w2, w3⟩ := wp g1.rs hF
    -- what the loop keeps
    let Inv' : Nat → Hp → Prop := fun j H' => j ≤ ds.length ∧ ∃ ρ' acc accD, RS K (fm.ex [D]) H' (wipe σ vs) ρ' ∧ Mo (fm.hid (wipe σ vs) (wipeE ρ1 vs) H1) ((fm.ex [D]).hid (wipe σ vs) ρ' H') ∧ (∀ b o, H1 b = some o → b ∉ owned σ ρ1 → H' b = some o) ∧
      (∀ a ∈ owned (wipe σ vs) ρ', a ∈ owned σ ρ1) ∧ (∀ v ∈ vs, Env.at ρ' v = .no) ∧ H' D = some (.lst acc) ∧ Reps K ((fm.ex [D]).hid (wipe σ vs) ρ' H') acc accD ∧ compGo g t e vs (ds.drop j) accD ρ' fun acc ρ3 => Q (.lst acc) ρ3
    refine ⟨fun j m H' => m = ds.length - j ∧ Inv' j H', ⟨_, rfl, Nat.zero_le _, wipeE ρ1 vs, [], [], w1.newE' hD, ?_, fun b o h n => (upd_ne (ne_of_none h hD)).trans h, w3, ?_, upd_same, .nil, q2⟩, ?_⟩
    · intro b o h
      obtain ⟨m, h⟩ := hide_some h
      have nb : b ≠ D := ne_of_none h hD
      refine (hide_out ?_).trans ((upd_ne nb).trans h)
      show b ∉ (D :: fm.E) ++ owned (wipe σ vs) (wipeE ρ1 vs)
      rw [List.cons_append, List.mem_cons, not_or]; exact ⟨nb, m⟩
    · intro v hv; rw [at_wipeE (wipe_lt q1), if_pos hv]
    rintro j m H2 ⟨rfl, hj, ρ', acc, accD, s2, mo, fr, sh, nos, hH, rp, cg⟩
    have wkE : Mo (fm.hid σ ρ1 H1) ((fm.ex [D]).hid (wipe σ vs) ρ' H2) := fun b o h => mo b o (w2 b o h)
    obtain ⟨st, tn⟩ := wk _ H2 wkE s2.trk
    by_cases hlt : j < ds.length
    · have hd : ds.drop j = ds[j] :: ds.drop (j + 1) := List.drop_eq_getElem_cons hlt
      rw [hd] at cg
      obtain ⟨go, yl⟩ := tn j ds[j] (List.getElem?_eq_getElem hlt)
      refine .inr ⟨go, fun H' => Inv' (j + 1) H', fun H' h => ⟨ds.length - (j + 1), by omega, rfl, h⟩, fun y0 H3 yy => ?_⟩
      obtain ⟨al, rx⟩ := yl y0 H3 yy
      have t3 := (To.refl s2).alc al
      have hD3 : H3 D = some (.lst acc) := al.up _ _ hH
      refine hg (fm.ex [D]) H3 (wipe σ vs) ρ' y0 _ _ _ t3.rs x.io rx cg fun σ4 ρ4 q4 s4 m4 e4 l4 => ⟨?_, ?_⟩
      · have : wipe σ4 vs = wipe (wipe σ vs) vs := wipe_eq e4 l4
        rw [this]
        apply List.ext_getElem?
        intro j'
        rw [wipe_get, wipe_get (σ := σ), wipe_length]
        by_cases z : j' ∈ vs <;> simp [z]
      -- back to the wiped slots
      have back : ∀ (H5 : Hp) (ρ5 : Env) (accD' : List DL.D) (acc' : List V), To K (fm.ex [D]) σ4 H3 ρ4 H5 ρ5 → H5 D = some (.lst acc) → (∀ us, Reps K ((fm.ex [D]).hid σ4 ρ5 H5) us accD' → True) →
          (wipeK ρ5 vs fun ρ6 => compGo g t e vs (ds.drop (j + 1)) accD' ρ6 fun acc ρ3 => Q (.lst acc) ρ3) → Reps K ((fm.ex [D]).hid σ4 ρ5 H5) acc' accD' → (H6 : Hp) → (H6 = H5 ∧ acc' = acc ∨ H6 = upd H5 D (.lst acc')) → Inv' (j + 1) H6 := by
        intro H5 ρ5 accD' acc' t5 hD5 _ q5 rp5 H6 e6
        obtain ⟨q6, wp6⟩ := wipeK_spec q5
        obtain ⟨r6, m6, s6⟩ := wp6 t5.rs fun p hp => hF p hp
        have ew : wipe σ4 vs = wipe σ vs := by
          have : wipe σ4 vs = wipe (wipe σ vs) vs := wipe_eq e4 l4
          rw [this]
          apply List.ext_getElem?
          intro j'
          rw [wipe_get, wipe_get (σ := σ), wipe_length]
          by_cases z : j' ∈ vs <;> simp [z]
        rw [ew] at r6 m6 s6
        have frm : ∀ b o, H1 b = some o → b ∉ owned σ ρ1 → H5 b = some o := fun b o h n => by
          refine t5.go.fr b o (al.up b o (fr b o h n)) fun z => ?_
          -- an own object of the turn's start is one of ours
          have ss : ∀ a ∈ owned σ4 ρ4, a ∈ owned (wipe σ vs) ρ' := fun a ha => by
            by_cases hv : (fm.ex [D]).hid (wipe σ vs) ρ' H3 a = none
            · by_cases z2 : a ∈ (fm.ex [D]).E ++ owned (wipe σ vs) ρ'
              · rcases List.mem_append.mp z2 with z3 | z3
                · exact absurd ha fun _ => (List.nodup_append.mp s4.nd).2.2 a z3 a ha rfl
                · exact z3
              · obtain ⟨⟨o', h', _⟩, _⟩ := s4.tr a (List.mem_append_right _ ha)
                have := (hide_out z2).symm.trans hv
                rw [h'] at this; cases this
            · cases hq : (fm.ex [D]).hid (wipe σ vs) ρ' H3 a with
              | none => exact absurd hq hv
              | some o' =>
                have := m4 a o' hq
                have := (hide_some this).1
                exact absurd (List.mem_append_right _ ha) this
          exact n (sh b (ss b z))
        have shh : ∀ a ∈ owned (wipe σ vs) (wipeE ρ5 vs), a ∈ owned σ ρ1 := fun a ha => by
          have h1 := t5.go.sh a (s6 a ha)
          by_cases z2 : a ∈ (fm.ex [D]).E ++ owned (wipe σ vs) ρ'
          · rcases List.mem_append.mp z2 with z3 | z3
            · exact absurd rfl ((List.nodup_append.mp s4.nd).2.2 a z3 a h1)
            · exact sh a z3
          · obtain ⟨⟨o', h', _⟩, _⟩ := s4.tr a (List.mem_append_right _ h1)
            have := m4 a o' ((hide_out z2).trans h')
            exact absurd (List.mem_append_right _ h1) (hide_some this).1
        have moo : Mo (fm.hid (wipe σ vs) (wipeE ρ1 vs) H1) ((fm.ex [D]).hid (wipe σ vs) (wipeE ρ5 vs) H5) := fun b o h => m6 b o (t5.go.sub b o (m4 b o (t3.go.sub b o (mo b o h))))
        have nn : ∀ v ∈ vs, Env.at (wipeE ρ5 vs) v = .no := fun v hv => by rw [at_wipeE (wipe_lt q5), if_pos hv]
        rcases e6 with ⟨rfl, rfl⟩ | rfl
        · exact ⟨hlt, _, _, _, r6, moo, frm, shh, nn, hD5, rp5.mono m6, q6⟩
        · obtain ⟨r7, e7⟩ := r6.hidUpd (ys := acc') hD5
          refine ⟨hlt, _, acc', _, r7, by rw [e7]; exact moo, fun b o h n => (upd_ne (ne_of_none h hD)).trans (frm b o h n), shh, nn, upd_same, by rw [e7]; exact rp5.mono m6, q6⟩
      have hno : XOk K W.no (fm.ex [D]) σ4 H3 ρ4 fun _ _ => False := ⟨x.io, fun _ _ _ _ _ z => z.elim⟩
      refine ht (fm.ex [D]) H3 σ4 ρ4 _ (fun _ _ => False) _ s4 q4 hno fun b H5 ρ5 q5 g5 => ?_
      have rpa : Reps K ((fm.ex [D]).hid σ4 ρ5 H5) acc accD := (((rp.mono t3.go.sub).mono m4).mono g5.go.sub)
      have dOwn : D ∉ owned σ4 ρ4 := fun z => (List.nodup_append.mp s4.nd).2.2 D (List.mem_append_left _ List.mem_cons_self) D z rfl
      have hD5 : H5 D = some (.lst acc) := g5.go.fr D _ hD3 dOwn
      cases b with
      | false => exact back H5 ρ5 accD acc g5 hD5 (fun _ _ => trivial) (q5.2 rfl) rpa H5 (.inl ⟨rfl, rfl⟩)
      | true =>
        refine he (fm.ex [D]) H5 σ4 ρ5 _ (fun _ _ => False) _ g5.rs (q5.1 rfl) (hno.to g5) fun z H6 d ρ6 q6 g6 r6 => ?_
        have dOwn5 : D ∉ owned σ4 ρ5 := fun zz => dOwn (g5.go.sh D zz)
        have hD6 : H6 D = some (.lst acc) := g6.go.fr D _ hD5 dOwn5
        have rpb := rpa.mono g6.go.sub
        refine ⟨acc, hD6, by rw [rpb.length, ← lim]; exact q6.1, ?_⟩
        exact back H6 ρ6 (accD ++ [d]) (acc ++ [z]) (g5.trans g6) hD6 (fun _ _ => trivial) q6.2 (rpb.append (.cons r6 .nil)) _ (.inr rfl)
    · have ej : j = ds.length := by omega
      subst ej
      rw [List.drop_length] at cg
      refine .inl ⟨st, ?_⟩
      obtain ⟨r3, e3⟩ := RS.unwipe s2 nos hF
      have hid3 : (fm.ex [D]).hid (wipe σ vs) ρ' H2 = (fm.ex [D]).hid σ ρ' H2 := by
        show hide (_ ++ owned (wipe σ vs) ρ') H2 = hide (_ ++ owned σ ρ') H2
        rw [e3]
      have wk3 : RS K fm H2 σ ρ' := RS.ex_weak (p := D) (o := .lst accD) trivial r3 (.inl ⟨acc, hH⟩)
      have sh3 : ∀ a ∈ owned σ ρ', a ∈ owned σ ρ1 := fun a ha => sh a (by rw [e3]; exact ha)
      refine k D H2 (.lst accD) ρ' cg (NewO.of g1 ⟨⟨wk3, fr, sh3⟩, r3, fun b o h => (congrFun hid3 b).symm.trans (wkE b o h), acc, hH, ?_⟩)
      have : (fm.ex [D]).hid σ ρ' H2 = hide (ownAs D (.lst accD) ++ (fm.E ++ owned σ ρ')) H2 := by
        show hide (([D] ++ fm.E) ++ owned σ ρ') H2 = hide ([D] ++ (fm.E ++ owned σ ρ')) H2
        rw [List.append_assoc]
      rw [← this, ← hid3]; exact rp
theorem do_comp {elt tg iter : Expr} {ifs : List Expr} {scope : Scope} {own : List (Str × Nat)} {pos : Pos} {i : WI} {g : WG} {t : WT} {e : WE} (hc : X.calm = true) (hN : X.N.Nodup) (hi : DI X W tg iter i) (ok : BlkOk X.N X.env.scope scope own) (hio : ∀ v ∈ own.map (·.2), v ∉ W.io)
    (hg : ∀ (s : Shared) (H : Hp) (C : Addr) (cl : List (Str × Addr)) (fp : List Addr), DG (X.blk s H scope (compEnvC scope cl C X.env) fp) W.io (own.map (·.2)) tg g)
    (ht : ∃ tt, (∀ (s : Shared) (H : Hp) (C : Addr) (cl : List (Str × Addr)) (fp : List Addr), PTs (X.blk s H scope (compEnvC scope cl C X.env) fp) ifs tt) ∧ LT X.K W.no tt t)
    (he : ∀ (s : Shared) (H : Hp) (C : Addr) (cl : List (Str × Addr)) (fp : List Addr), DE (X.blk s H scope (compEnvC scope cl C X.env) fp) W.no elt e) (hs : ∀ x, foldedSetIterable iter X.env x = pure x := by intro _; rfl) :
    DO X W (.ListComp elt [⟨tg, iter, ifs, 0⟩] scope pos) (wComp i g t e (own.map (·.2))) := by
  obtain ⟨t1, p1, l1⟩ := hi.ex
  obtain ⟨tt, p2, l2⟩ := ht
  exact ⟨_, pe_lc (g := tgOf X.K W.io (own.map (·.2)) g) (te := tOfE X.K W.no e) hc hN p1 ok (fun s H C cl fp => (hg s H C cl fp).pg) p2 (fun s H C cl fp => (he s H C cl fp).pe) hs, lo_comp hio l1 (lg_of X.K W.io (own.map (·.2)) g) l2 (le_of X.K W.no e)⟩
theorem ht_nil {K : PySem.W.Frag} {XX : Shared → Hp → Addr → List (Str × Addr) → List Addr → Cx} : ∃ tt, (∀ s H C cl fp, PTs (XX s H C cl fp) [] tt) ∧ LT K W.no tt wYes := ⟨tYes, fun _ _ _ _ _ => pts_nil, fun fm H σ ρ Q R QV r q x k => k true H ρ q (.refl r)⟩
theorem ht_one {K : PySem.W.Frag} {c : Expr} {t : WT} {XX : Shared → Hp → Addr → List (Str × Addr) → List Addr → Cx} (hK : ∀ s H C cl fp, (XX s H C cl fp).K = K) (h : ∀ s H C cl fp, DT (XX s H C cl fp) W.no c t) : ∃ tt, (∀ s H C cl fp, PTs (XX s H C cl fp) [c] tt) ∧ LT K W.no tt t :=
  ⟨tOfT K W.no t, fun s H C cl fp => pts_one (by have := (h s H C cl fp).pt; rw [hK] at this; exact this), lt_of K W.no t⟩
end
end DL

set_option Elab.async false
set_option linter.all false
set_option maxRecDepth 100000
namespace DL
open PySem L2

/-! ## the frame of a call: what is hidden stays -/
def over (A : List Addr) (H H' : Hp) : Hp := fun b => if b ∈ A then H b else H' b
theorem over_in {A : List Addr} {H H' : Hp} {b : Addr} (h : b ∈ A) : over A H H' b = H b := if_pos h
theorem over_out {A : List Addr} {H H' : Hp} {b : Addr} (h : b ∉ A) : over A H H' b = H' b := if_neg h
structure HidOk (A : List Addr) (H : Hp) : Prop where
  tr : ∀ a ∈ A, ∃ o, H a = some o ∧ Ownable o
  cl : ∀ b C dx fs, b ∈ A → H b = some (.ins C dx fs) → dx ∈ A
  co : ∀ c b, c ∈ A → H c = some (.own b) → b ∈ A
theorem HidOk.noT {A : List Addr} {H : Hp} (ho : HidOk A H) {b : Addr} {o : HO} (h : H b = some o) (n : ¬ Ownable o) : b ∉ A := fun hA => by
  obtain ⟨o', h1, h2⟩ := ho.tr b hA
  rw [h] at h1; cases h1; exact n h2
section
variable {P : Program} {w : World} {A : List Addr} {H H' : Hp} {h h' : Heap}
theorem HidOk.hok (ho : HidOk A H) (ok : HOk P w H h) : HOk P w (hide A H) h := fun b o e => by
  obtain ⟨nb, e⟩ := hide_some e
  exact (ok b o e).stay (fun _ _ _ q => q) (fun c q => (hide_out fun hc => nb (ho.co c b hc q)).trans q) fun c xs q => (hide_out (ho.noT q id)).trans q
/-- hidden objects back: they stand as they stood -/
theorem HidOk.back (ho : HidOk A H) (ok : HOk P w H h) (ok' : HOk P w H' h') (no : ∀ a ∈ A, H' a = none) (kp : ∀ a ∈ A, ∀ o, h.get? a = some o → h'.get? a = some o) (tup : ∀ b xs, H b = some (.tup xs) → H' b = some (.tup xs)) : HOk P w (over A H H') h' := fun b o e => by
  by_cases hb : b ∈ A
  · rw [over_in hb] at e
    have x := ok b o e
    obtain ⟨o', h1, h2⟩ := ho.tr b hb
    rw [e] at h1; cases h1
    -- only what its description leans on
    cases o with
    | lst xs => obtain ⟨z, its, n, r, q⟩ := x; exact ⟨z, its, n, r, kp b hb _ q⟩
    | dK kvs => obtain ⟨z, y, vs, r, ob, es, ep, q, c⟩ := x; exact ⟨z, y, vs, r, ob, es, ep, kp b hb _ q, c⟩
    | ins C dx fs =>
      obtain ⟨d, z, ne, q, mA, ⟨od, es, ep, q2, c⟩, r⟩ := x
      have hdx := ho.cl b C dx fs hb e
      exact ⟨(over_in hdx).trans d, z, ne, kp b hb _ q, mA, ⟨od, es, ep, kp dx hdx _ q2, c⟩, r⟩
    | own y => obtain ⟨ob, q⟩ := x; exact ⟨ob, kp b hb _ q⟩
    | _ => exact h2.elim
  · rw [over_out hb] at e
    have vis : ∀ c u, H' c = some u → over A H H' c = some u := fun c u q => (over_out fun hc => by rw [no c hc] at q; cases q).trans q
    exact (ok' b o e).stay (fun _ _ _ q => q) (fun c q => vis c _ q) fun c xs q => vis c _ q
end

section
variable {X : Cx} {W : WX} {k : Nat} {f C : Addr} {fd : FuncData} {ps : List Str} {sp : Sp} {dvs : List V} {ds : List Value} {x : Str} {p pos : Pos} {e : Expr} {es : List Expr} {t : TA}
/-- a callee is run while the objects at A are hidden from it -/
theorem env_hide {P : Program} {w : World} {K : PySem.W.Frag} {mg : Str → Option Value} {base : Heap} {A' : Around} {outer : List PySem.Env} {s : Shared} {H : Hp} {A : List Addr} (e0 : Env0 P w K mg base A' outer s H) (ho : HidOk A H) : Env0 P w K mg base A' outer s (hide A H) :=
  ⟨e0.frames, e0.mod, fun b o q => ⟨(e0.bs b o q).1, by
    by_cases hb : b ∈ A
    · exact hide_in hb
    · rw [hide_out hb]; exact (e0.bs b o q).2⟩, e0.bsz, e0.funs, fun b q => by
    by_cases hb : b ∈ A
    · exact hide_in hb
    · rw [hide_out hb]; exact e0.frf b q, ho.hok e0.hok, e0.bare⟩
theorem frame_post {A : List Addr} {pins : List (Addr × Obj)} {σ : St} {H : Hp} {s : Shared} {Q : VK} (tk : Takes X W) (I : Inv X pins σ H s) (ho : HidOk A H) (r : Result) (s' : Shared)
    (hq : CR (L2.CX X.prog X.w) X.stack X.prog X.w (hide A H) s (fun v H' => (∀ a ∈ A, H' a = none) → Q v (over A H H')) (fun cls dd H' => (∀ a ∈ A, H' a = none) → W cls dd σ (over A H H')) r s') :
    match (generalizing := false) r with | .ok (.ret v) => EP X pins σ Q v s' | .ok _ => False | .error e => X.xe e s' := by
  have e0 := I.env0
  have nfr : ∀ a ∈ A, a ∉ frs X.stack := fun a ha z => by
    obtain ⟨o, h1, _⟩ := ho.tr a ha
    rw [e0.frf a z] at h1; cases h1
  have there : ∀ a ∈ A, ∃ o, s.heap.get? a = some o := fun a ha => by
    obtain ⟨o, h1, h2⟩ := ho.tr a ha
    have x := I.hok a o h1
    cases o with
    | lst xs => obtain ⟨z, its, n, r, q⟩ := x; exact ⟨_, q⟩
    | dK kvs => obtain ⟨z, y, vs, r, ob, es, ep, q, c⟩ := x; exact ⟨_, q⟩
    | ins C dx fs => obtain ⟨d, z, ne, q, _⟩ := x; exact ⟨_, q⟩
    | own y => exact x
    | _ => exact h2.elim
  have hnone : ∀ b, H b = none → hide A H b = none := fun b q => by
    by_cases hb : b ∈ A
    · exact hide_in hb
    · rw [hide_out hb]; exact q
  cases r with
  | error er =>
    obtain ⟨a, B, H', cls, d, rfl, fl, hok, ub, na, os, ag, hE⟩ := hq
    have no : ∀ a ∈ A, H' a = none := fun a ha => by
      obtain ⟨o, ho'⟩ := there a ha
      exact ub.free a o ho' (hide_in ha)
    have kp : ∀ a ∈ A, ∀ o, s.heap.get? a = some o → B.get? a = some o := fun a ha o q => ub.keep a o q (hide_in ha) (nfr a ha)
    have vis : ∀ c u, H' c = some u → over A H H' c = some u := fun c u q => (over_out fun hc => by rw [no c hc] at q; cases q).trans q
    have aA : a ∉ A := fun ha => by
      obtain ⟨o, q⟩ := there a ha
      have := kp a ha o q
      rw [fl.2.1] at this; cases this
    refine tk _ _ (XE.of_call I (E := fun cls dd H2 => W cls dd σ H2) (fun _ _ _ q => q) ⟨a, B, over A H H', cls, d, rfl, fl, ho.back I.hok hok no kp fun b xs q => ub.tups b xs ((hide_out (ho.noT q id)).trans q), ⟨fun b o q n hb => ub.keep b o q (hnone b n) hb, ub.slot, fun b o q n => ?_, ub.there, fun b xs q => vis _ _ (ub.tups b xs ((hide_out (ho.noT q id)).trans q)), fun b o xs q => vis _ _ (ub.frzs b o xs ((hide_out (ho.noT q id)).trans q)), fun b qs q => ?_⟩, (over_out aA).trans na, os, ag, hE no⟩)
    · by_cases hb : b ∈ A
      · rw [over_in hb]; exact n
      · rw [over_out hb]; exact ub.free b o q (hnone b n)
    · obtain ⟨more, q2⟩ := ub.tbls b qs ((hide_out (ho.noT q id)).trans q)
      exact ⟨more, vis _ _ q2⟩
  | ok fl =>
    cases fl with
    | ret u =>
      obtain ⟨v, H', os, bare, un, hok, rv, q⟩ := hq
      have no : ∀ a ∈ A, H' a = none := fun a ha => by
        obtain ⟨o, ho'⟩ := there a ha
        exact un.free a o ho' (hide_in ha) (by simp)
      have kp : ∀ a ∈ A, ∀ o, s.heap.get? a = some o → s'.heap.get? a = some o := fun a ha o q => un.keep a o q (hide_in ha) (nfr a ha) (by simp)
      have vis : ∀ c u, H' c = some u → over A H H' c = some u := fun c u q => (over_out fun hc => by rw [no c hc] at q; cases q).trans q
      refine I.after ⟨v, over A H H', os, bare, ⟨fun b o q n hb hx => un.keep b o q (hnone b n) hb hx, fun b o q n hb hx => un.slot b o q (hnone b n) hb hx, fun b o q n hx => ?_, un.there, fun b xs q => vis _ _ (un.tups b xs ((hide_out (ho.noT q id)).trans q)), fun b o xs q => vis _ _ (un.frzs b o xs ((hide_out (ho.noT q id)).trans q)), fun b qs q => ?_⟩, ho.back I.hok hok no kp fun b xs q => un.tups b xs ((hide_out (ho.noT q id)).trans q), rv, q no⟩
      · by_cases hb : b ∈ A
        · rw [over_in hb]; exact n
        · rw [over_out hb]; exact un.free b o q (hnone b n) hx
      · obtain ⟨more, q2⟩ := un.tbls b qs ((hide_out (ho.noT q id)).trans q)
        exact ⟨more, vis _ _ q2⟩
    | next => exact False.elim hq
    | brk => exact False.elim hq
    | cont => exact False.elim hq
theorem run_frameG {A' : Around} {A : List Addr} {pins : List (Addr × Obj)} {σ : St} {H : Hp} {s : Shared} {Q : VK} {us : List Value} {vs : List V} (F : FnOk X.prog X.w X.K X.mg X.base (L2.CX X.prog X.w) k f fd ps sp) (fr : A'.frames = X.A.frames) (hr : Room k A') (hb : Binds X.K fd ps ds) (hd : Vals dvs ds) (tk : Takes X W)
    (I : Inv X pins σ H s) (r : Vals vs us) (ho : HidOk A H) (h : sp (vs ++ dvs) (hide A H) (fun v H' => (∀ a ∈ A, H' a = none) → Q v (over A H H')) fun cls dd H' => (∀ a ∈ A, H' a = none) → W cls dd σ (over A H H')) :
    wpAny (model X.prog X.w) A' (call (.ref f) us) (EP X pins σ Q) X.xe s := by
  have r2 : Vals (vs ++ dvs) (us ++ ds) := r.append hd
  have hl : (us ++ ds).length = ps.length := by rw [← r2.length]; exact F.len _ _ _ _ h
  exact wpAny_call (codeAny_mono (F.run A' X.stack s (hide A H) ⟨us, []⟩ (us ++ ds) (vs ++ dvs) _ _ hr (by
    have e := env_hide I.env0 ho
    exact ⟨(by rw [fr]; exact e.frames), e.mod, e.bs, e.bsz, e.funs, e.frf, e.hok, e.bare⟩) (hb s us I.kIn hl) r2 h) fun r s' hq => frame_post tk I ho r s' hq)
/-- C(..), while the objects at A are hidden from __init__ -/
theorem run_makeF {A : List Addr} {pins : List (Addr × Obj)} {σ : St} {H : Hp} {s : Shared} {Q : VK} {us : List Value} {vs : List V} (M : Mk X.K C f) (F : FnOk X.prog X.w X.K X.mg X.base (L2.CX X.prog X.w) k f fd ps sp) (hr : Room (k + 1) X.A) (hb : Binds X.K fd ps ds) (hd : Vals dvs ds) (tk : Takes X W)
    (I : Inv X pins σ H s) (r : Vals vs us) (ho : ∀ x dx, H x = none → H dx = none → dx ≠ x → HidOk A (upd (upd H dx (.own x)) x (.ins C dx [])))
    (h : ∀ x dx, H x = none → H dx = none → dx ≠ x → sp (.ref x :: (vs ++ dvs)) (hide A (upd (upd H dx (.own x)) x (.ins C dx []))) (fun v H' => (∀ a ∈ A, H' a = none) → v = .non ∧ Q (.ref x) (over A (upd (upd H dx (.own x)) x (.ins C dx [])) H'))
      fun cls dd H' => (∀ a ∈ A, H' a = none) → W cls dd σ (over A (upd (upd H dx (.own x)) x (.ins C dx [])) H')) :
    wpAny (model X.prog X.w) X.A (call (.ref C) us) (EP X pins σ Q) X.xe s := by
  have hx := I.hok.fresh (Nat.le_succ s.heap.objs.size)
  have hdx := I.hok.fresh (Nat.le_refl s.heap.objs.size)
  have ne := Nat.ne_of_lt (Nat.lt_succ_self s.heap.objs.size)
  have hq := h (s.heap.objs.size + 1) s.heap.objs.size hx hdx ne
  have ho := ho (s.heap.objs.size + 1) s.heap.objs.size hx hdx ne
  have I2 := Inv.made (C := C) I
  have r2 : Vals (V.ref (s.heap.objs.size + 1) :: (vs ++ dvs)) (Value.ref (s.heap.objs.size + 1) :: (us ++ ds)) := .cons rfl (r.append hd)
  have hl : (Value.ref (s.heap.objs.size + 1) :: us ++ ds).length = ps.length := by
    have e := r2.length
    rw [F.len _ _ _ _ hq] at e
    exact e.symm
  refine wpAny_call (make_map (f := f) I.kIn M.makes M.init (beq_iff_eq.mp M.fn) (codeAny_mono (F.run _ X.stack _ _ ⟨Value.ref (s.heap.objs.size + 1) :: us, []⟩ (Value.ref (s.heap.objs.size + 1) :: (us ++ ds)) _ _ _ (hr.make C us [])
    (env_hide (I2.env0.make C us []) ho) (hb _ (Value.ref (s.heap.objs.size + 1) :: us) I2.kIn hl) r2 hq) fun r s' hq' => ?_))
  have post := frame_post (Q := fun v H' => v = .non ∧ Q (.ref (s.heap.objs.size + 1)) H') tk I2 ho r s' hq'
  cases r with
  | error e => exact post
  | ok fl =>
    cases fl with
    | ret u =>
      obtain ⟨v, H', I3, rv, ev, q3⟩ := post
      subst ev
      exact ⟨rv, ⟨V.ref (s.heap.objs.size + 1), H', I3, rfl, q3⟩⟩
    | next => exact post
    | brk => exact post
    | cont => exact post
theorem run_frame {A : List Addr} {pins : List (Addr × Obj)} {σ : St} {H : Hp} {s : Shared} {Q : VK} {us : List Value} {vs : List V} (F : FnOk X.prog X.w X.K X.mg X.base (L2.CX X.prog X.w) k f fd ps sp) (hr : Room k X.A) (hb : Binds X.K fd ps ds) (hd : Vals dvs ds) (tk : Takes X W)
    (I : Inv X pins σ H s) (r : Vals vs us) (ho : HidOk A H) (h : sp (vs ++ dvs) (hide A H) (fun v H' => (∀ a ∈ A, H' a = none) → Q v (over A H H')) fun cls dd H' => (∀ a ∈ A, H' a = none) → W cls dd σ (over A H H')) :
    wpAny (model X.prog X.w) X.A (call (.ref f) us) (EP X pins σ Q) X.xe s := run_frameG F rfl hr hb hd tk I r ho h
/-- f(..) where what the caller chooses is hidden -/
def tCallF (sp : Sp) (dvs : List V) (W : WX) (t : TA) : TE := fun σ H Q => t σ H fun vs H1 => ∃ A, HidOk A H1 ∧ sp (vs ++ dvs) (hide A H1) (fun v H' => (∀ a ∈ A, H' a = none) → Q v (over A H1 H')) fun cls dd H' => (∀ a ∈ A, H' a = none) → W cls dd σ (over A H1 H')
theorem pe_callF (F : FnOk X.prog X.w X.K X.mg X.base (L2.CX X.prog X.w) k f fd ps sp) (hr : Room k X.A) (hg : Gl X x) (hm : X.mg x = some (.ref f)) (hk : PySem.W.keepIn X.K (.ref f) = true) (hb : Binds X.K fd ps ds) (hd : Vals dvs ds) (tk : Takes X W)
    (ha : PA X (e :: es) t) (hdb : (x == ("__debug__" : Str)) = false := by decide) (he : starEach (e :: es) X.env = (false, eval e X.env) :: starEach es X.env := by rfl) (hpl : (backTo pos (starEach es X.env)).any (·.1) = false := by rfl) :
    PE X (.Call (.Name x p) (e :: es) [] pos) (tCallF sp dvs W t) := by
  refine ⟨fun pins s σ H Q I h => ?_⟩
  refine wpAny_Call_Name_kw (ld_glob I hg hm ?_ hdb)
  refine PySem.W.callWith_K (h₀ := X.base) I.ok.mod.kin hk (thn (ha.run pos pins s σ H _ I h) fun us s1 ⟨vs, H1, I1, r, A, ho, q⟩ => ⟨I1.kIn, ?_⟩) he hpl
  exact run_frame F hr hb hd tk I1 r ho q
theorem pe_callF0 (F : FnOk X.prog X.w X.K X.mg X.base (L2.CX X.prog X.w) k f fd ps sp) (hr : Room k X.A) (hg : Gl X x) (hm : X.mg x = some (.ref f)) (hk : PySem.W.keepIn X.K (.ref f) = true) (hb : Binds X.K fd ps ds) (hd : Vals dvs ds) (tk : Takes X W)
    (hdb : (x == ("__debug__" : Str)) = false := by decide) : PE X (.Call (.Name x p) [] [] pos) (tCallF sp dvs W tNil) := by
  refine ⟨fun pins s σ H Q I h => ?_⟩
  refine wpAny_Call_Name_kw (ld_glob I hg hm ?_ hdb)
  obtain ⟨A, ho, q⟩ := h
  exact PySem.W.callWith_K0 I.kIn hk (run_frame (us := []) F hr hb hd tk I .nil ho q)
end
end DL

set_option Elab.async false
set_option linter.all false
set_option maxRecDepth 100000
namespace DL
open PySem L2

/-! ## what a def is worth over data -/
abbrev SpD := List Sl → (Sl → List Sl → Prop) → (Exn → List Sl → Prop) → Prop
def ioF : Nat → List (Option V) → List Sl → List (Nat × Addr)
  | i, some (.ref a) :: σ, .own _ :: ρ => (i, a) :: ioF (i + 1) σ ρ
  | i, _ :: σ, _ :: ρ => ioF (i + 1) σ ρ
  | _, _, _ => []
def outOf : List Sl → Env → List Sl
  | [], _ => []
  | .own _ :: is, s :: ρ => s :: outOf is ρ
  | .own _ :: is, [] => .no :: outOf is []
  | _ :: is, ρ => .no :: outOf is ρ.tail
abbrev entryFm (H : Hp) (vs : List V) (ins : List Sl) : Fm := ⟨hide (owned (vs.map some) ins) H, [], ioF 0 (vs.map some) ins⟩
def spOf (K : PySem.W.Frag) (s : SpD) : Sp := fun vs H Q E => ∃ ins, RS K (entryFm H vs ins) H (vs.map some) ins ∧
  s ins (fun r out => ∀ v H', RS K (entryFm H vs ins) H' (vs.map some) out → RetOk K (entryFm H vs ins) (vs.map some) out H' v r → Q v H')
    fun x out => ∀ cls dd H', RS K (entryFm H vs ins) H' (vs.map some) out → ExR K ((entryFm H vs ins).hid (vs.map some) out H') H' cls dd x → E cls dd H'
/-- what is seen at the beginning is seen at the end -/
theorem RS.mo {K : PySem.W.Frag} {fm : Fm} {H : Hp} {σ : St} {ρ : Env} (r : RS K fm H σ ρ) : Mo fm.G (fm.hid σ ρ H) := fun b o h =>
  (hide_out fun z => by rw [(r.tr b z).2] at h; cases h).trans (r.keep b o h)

/-! ### a def's body -/
theorem at_ge : ∀ {ρ : Env} {j : Nat}, ρ.length ≤ j → Env.at ρ j = .no
  | [], _, _ => rfl
  | _ :: _, 0, h => by simp at h
  | _ :: r, j + 1, h => at_ge (ρ := r) (by simpa using h)
theorem RS.ext {K : PySem.W.Frag} {fm : Fm} {H : Hp} {σ : St} {ρ : Env} (r : RS K fm H σ ρ) (m : Nat) : RS K fm H (σ ++ List.replicate m none) (ρ ++ List.replicate m .no) ∧ owned (σ ++ List.replicate m none) (ρ ++ List.replicate m .no) = owned σ ρ := by
  have nn : ∀ m : Nat, owned (List.replicate m none) (List.replicate m .no) = [] := by
    intro m
    induction m with
    | zero => rfl
    | succ m ih => show slotAs none .no ++ owned (List.replicate m none) (List.replicate m .no) = []; rw [ih, slotAs_no]; rfl
  have ow : ∀ (σ : St) (ρ : Env), σ.length = ρ.length → owned (σ ++ List.replicate m none) (ρ ++ List.replicate m .no) = owned σ ρ := by
    intro σ
    induction σ with
    | nil => intro ρ h; cases ρ with
      | nil => exact nn m
      | cons _ _ => simp at h
    | cons v σ ih => intro ρ h; cases ρ with
      | nil => simp at h
      | cons s ρ => exact congrArg (slotAs v s ++ ·) (ih ρ (by simpa using h))
  have e := ow σ ρ r.len
  have atE : ∀ (ρ : Env) (j : Nat), Env.at (ρ ++ List.replicate m .no) j = Env.at ρ j := by
    have rep : ∀ (m j : Nat), Env.at (List.replicate m .no) j = .no := by
      intro m
      induction m with
      | zero => intro j; rfl
      | succ m ih => intro j; cases j with
        | zero => rfl
        | succ j => exact ih j
    intro ρ
    induction ρ with
    | nil => intro j; exact rep m j
    | cons s ρ ih => intro j; cases j with
      | zero => rfl
      | succ j => exact ih j
  refine ⟨⟨by simp [r.len], fun j => ?_, by rw [e]; exact r.nd, by rw [e]; exact r.tr, r.ins, by rw [e]; exact r.cl, by rw [e]; exact r.co, r.keep, fun p hp => ?_⟩, e⟩
  · show SlotOk K (hide (fm.E ++ owned _ _) H) H _ _
    rw [e, atE]
    have q := r.sl j
    by_cases h : j < σ.length
    · have : (σ ++ List.replicate m none).getD j none = σ.getD j none := by
        rw [List.getD_eq_getElem?_getD, List.getD_eq_getElem?_getD, List.getElem?_append_left h]
      rw [this]; exact q
    · have : Env.at ρ j = .no := at_ge (by rw [← r.len]; omega)
      rw [this]; cases ((σ ++ List.replicate m none).getD j none) <;> trivial
  · have := r.fx p hp
    rw [List.getElem?_append_left (List.getElem?_eq_some_iff.mp this).1]; exact this

theorem at_out : ∀ {is : List Sl} {ρ : Env} {j : Nat}, Env.at (outOf is ρ) j = (match Env.at is j with | .own _ => Env.at ρ j | _ => .no)
  | [], _, _ => rfl
  | s :: is, [], 0 => by cases s <;> rfl
  | s :: is, t :: ρ, 0 => by cases s <;> rfl
  | s :: is, [], j + 1 => by
    have := at_out (is := is) (ρ := []) (j := j)
    cases s <;> exact this
  | s :: is, t :: ρ, j + 1 => by
    have := at_out (is := is) (ρ := ρ) (j := j)
    cases s <;> exact this
theorem out_len : ∀ (is : List Sl) (ρ : Env), (outOf is ρ).length = is.length
  | [], _ => rfl
  | s :: is, [] => by
    have := out_len is []
    cases s <;> simp [outOf, this]
  | s :: is, t :: ρ => by
    have := out_len is ρ
    cases s <;> simp [outOf, this]
theorem ioF_at : ∀ {σ : List (Option V)} {is : List Sl} {n j : Nat} {o : OD} {a : Addr}, σ[j]? = some (some (.ref a)) → Env.at is j = .own o → (n + j, a) ∈ ioF n σ is
  | [], _, _, _, _, _, h, _ => by simp at h
  | v :: σ, [], _, _, _, _, _, h => by cases h
  | v :: σ, s :: is, n, 0, o, a, h, h' => by
    have e : v = some (.ref a) := by simpa using h
    have e' : s = .own o := h'
    subst e e'
    exact List.mem_cons_self
  | v :: σ, s :: is, n, j + 1, o, a, h, h' => by
    have ih := ioF_at (σ := σ) (is := is) (n := n + 1) (j := j) (by simpa using h) h'
    rw [show n + 1 + j = n + (j + 1) by omega] at ih
    unfold ioF
    split
    · exact List.mem_cons_of_mem _ (by rename_i e1 e2; cases e1; cases e2; exact ih)
    · rename_i e1 e2; cases e1; cases e2; exact ih
    · rename_i x1 x2 hx; exact (hx _ _ _ _ rfl rfl).elim
theorem out_sub : ∀ {σ0 : St} {is : List Sl} {σ : St} {ρ : Env}, σ0.length = is.length → (∀ j o, Env.at is j = .own o → σ[j]? = σ0[j]?) → (owned σ0 (outOf is ρ)).Sublist (owned σ ρ)
  | [], _, _, _, _, _ => by simp [owned]
  | v :: σ0, [], _, _, h, _ => by simp at h
  | v :: σ0, s :: is, σ, ρ, hl, h => by
    have tail : ∀ σ' ρ', (∀ j o, Env.at is j = .own o → σ'[j]? = σ0[j]?) → (owned σ0 (outOf is ρ')).Sublist (owned σ' ρ') := fun σ' ρ' h' => out_sub (by simpa using hl) h'
    have emp : ∀ (σ0 : St) (is : List Sl), owned σ0 (outOf is []) = [] := by
      intro σ0
      induction σ0 with
      | nil => intro is; rfl
      | cons v σ0 ih =>
        intro is
        cases is with
        | nil => rfl
        | cons s is => cases s <;> (show slotAs v .no ++ owned σ0 (outOf is []) = []; rw [slotAs_no, ih]; rfl)
    cases ρ with
    | nil => rw [emp]; exact List.nil_sublist _
    | cons t ρ =>
      cases σ with
      | nil =>
        -- no slot is a parameter that is handed back
        have none : ∀ (σ0 : St) (is : List Sl) (ρ : Env), σ0.length = is.length → (∀ j o, Env.at is j = .own o → ([] : St)[j]? = σ0[j]?) → owned σ0 (outOf is ρ) = [] := by
          intro σ0
          induction σ0 with
          | nil => intro is ρ _ _; rfl
          | cons v σ0 ih =>
            intro is ρ hl h
            cases is with
            | nil => simp at hl
            | cons s is =>
              have h2 := ih is ρ.tail (by simpa using hl) fun j o q => by have := h (j + 1) o q; simpa using this
              cases s with
              | own o => have := h 0 o rfl; simp at this
              | no => show slotAs v .no ++ owned σ0 (outOf is ρ.tail) = []; rw [slotAs_no, h2]; rfl
              | v d => show slotAs v .no ++ owned σ0 (outOf is ρ.tail) = []; rw [slotAs_no, h2]; rfl
        rw [none (v :: σ0) (s :: is) (t :: ρ) hl h]; exact List.nil_sublist _
      | cons u σ =>
        have ih := tail σ ρ fun j o q => by have := h (j + 1) o q; simpa using this
        cases s with
        | own o =>
          have e : u = v := by have := h 0 o rfl; simpa using this
          subst e
          exact List.Sublist.append_left ih _
        | no => show (slotAs v .no ++ owned σ0 (outOf is ρ)).Sublist _; rw [slotAs_no]; exact ih.trans (List.sublist_append_right _ _)
        | v d => show (slotAs v .no ++ owned σ0 (outOf is ρ)).Sublist _; rw [slotAs_no]; exact ih.trans (List.sublist_append_right _ _)
theorem mem_owned {a : Addr} : ∀ {σ : St} {ρ : Env}, a ∈ owned σ ρ ↔ ∃ j, a ∈ slotAs (σ.getD j none) (Env.at ρ j)
  | [], ρ => by
    constructor
    · intro h; cases h
    · rintro ⟨j, h⟩; simp [slotAs] at h
  | v :: σ, [] => by
    constructor
    · intro h; cases h
    · rintro ⟨j, h⟩; rw [show Env.at [] j = .no from rfl, slotAs_no] at h; cases h
  | v :: σ, s :: ρ => by
    show a ∈ slotAs v s ++ owned σ ρ ↔ _
    rw [List.mem_append, mem_owned (σ := σ) (ρ := ρ)]
    constructor
    · rintro (h | ⟨j, h⟩)
      · exact ⟨0, h⟩
      · exact ⟨j + 1, h⟩
    · rintro ⟨j, h⟩
      cases j with
      | zero => exact .inl h
      | succ j => exact .inr ⟨j, h⟩
theorem own_cl {K : PySem.W.Frag} {Hm H : Hp} {σ : St} {ρ : Env} (sl : ∀ j, SlotOk K Hm H (σ.getD j none) (Env.at ρ j)) {b C dx : Addr} {fs : List (Str × V)} (h : H b = some (.ins C dx fs)) (hd : H dx = some (.own b)) : dx ∈ owned σ ρ ↔ b ∈ owned σ ρ := by
  have key : ∀ j, dx ∈ slotAs (σ.getD j none) (Env.at ρ j) ↔ b ∈ slotAs (σ.getD j none) (Env.at ρ j) := fun j => by
    have s := sl j
    revert s
    cases σ.getD j none with
    | none => intro _; simp [slotAs]
    | some v =>
      cases v with
      | ref a =>
        cases Env.at ρ j with
        | no => intro _; simp [slotAs]
        | v d => intro _; simp [slotAs]
        | own o =>
          intro s
          cases o with
          | lst ds =>
            obtain ⟨vs, q, _⟩ := s
            constructor
            · intro z; have e : dx = a := by simpa [slotAs, ownAs] using z
              subst e; rw [hd] at q; cases q
            · intro z; have e : b = a := by simpa [slotAs, ownAs] using z
              subst e; rw [h] at q; cases q
          | dic ks ds =>
            obtain ⟨vs, q, _⟩ := s
            constructor
            · intro z; have e : dx = a := by simpa [slotAs, ownAs] using z
              subst e; rw [hd] at q; cases q
            · intro z; have e : b = a := by simpa [slotAs, ownAs] using z
              subst e; rw [h] at q; cases q
          | ins C' dx' ns ds =>
            obtain ⟨fs', q, _, _, q4⟩ := s
            show dx ∈ [a, dx'] ↔ b ∈ [a, dx']
            constructor
            · intro z
              rcases List.mem_cons.mp z with e | e
              · subst e; rw [hd] at q; cases q
              · have e : dx = dx' := by simpa using e
                subst e; rw [hd] at q4; cases q4; exact List.mem_cons_self
            · intro z
              rcases List.mem_cons.mp z with e | e
              · subst e; rw [h] at q; cases q; exact List.mem_cons_of_mem _ List.mem_cons_self
              · have e : b = dx' := by simpa using e
                subst e; rw [h] at q4; cases q4
      | _ => intro _; cases Env.at ρ j <;> simp [slotAs]
  rw [mem_owned, mem_owned]
  exact ⟨fun ⟨j, z⟩ => ⟨j, (key j).mp z⟩, fun ⟨j, z⟩ => ⟨j, (key j).mpr z⟩⟩
theorem own_co {K : PySem.W.Frag} {Hm H : Hp} {σ : St} {ρ : Env} (sl : ∀ j, SlotOk K Hm H (σ.getD j none) (Env.at ρ j)) {c b : Addr} (hc : c ∈ owned σ ρ) (h : H c = some (.own b)) : b ∈ owned σ ρ ∧ ∃ C fs, H b = some (.ins C c fs) := by
  obtain ⟨j, z⟩ := mem_owned.mp hc
  have s := sl j
  have e0 : ∀ x, x ∈ slotAs (σ.getD j none) (Env.at ρ j) → x ∈ owned σ ρ := fun x q => mem_owned.mpr ⟨j, q⟩
  revert s z e0
  cases σ.getD j none with
  | none => intro z; simp [slotAs] at z
  | some v =>
    cases v with
    | ref a =>
      cases Env.at ρ j with
      | no => intro z; simp [slotAs] at z
      | v d => intro z; simp [slotAs] at z
      | own o =>
        intro z s e0
        cases o with
        | lst ds =>
          obtain ⟨vs, q, _⟩ := s
          have e : c = a := by simpa [slotAs, ownAs] using z
          subst e; rw [h] at q; cases q
        | dic ks ds =>
          obtain ⟨vs, q, _⟩ := s
          have e : c = a := by simpa [slotAs, ownAs] using z
          subst e; rw [h] at q; cases q
        | ins C' dx' ns ds =>
          obtain ⟨fs', q, _, _, q4⟩ := s
          have z' : c ∈ [a, dx'] := z
          rcases List.mem_cons.mp z' with e | e
          · subst e; rw [h] at q; cases q
          · have e : c = dx' := by simpa using e
            subst e; rw [h] at q4; cases q4
            exact ⟨e0 _ (by simp [slotAs, ownAs]), C', fs', q⟩
    | _ => intro z; revert z; cases Env.at ρ j <;> simp [slotAs]
/-- hidden things that belong to no instance -/
def Flat (E : List Addr) (H : Hp) : Prop := ∀ a ∈ E, (∀ C dx fs, H a ≠ some (.ins C dx fs)) ∧ ∀ b, H a ≠ some (.own b)
theorem Flat.nil (H : Hp) : Flat [] H := fun _ h => nomatch h
theorem flat_own {K : PySem.W.Frag} {Hm H : Hp} {p : Addr} {o : OD} (n : noInsO o) (h : OwnAt K Hm H p o) : Flat (ownAs p o) H := fun a ha => by
  have e : a = p := by cases o with
    | ins C dx ns ds => exact n.elim
    | _ => simpa [ownAs] using ha
  subst e
  rcases OwnAt.kind n h with ⟨vs, q⟩ | ⟨vs, q⟩ <;> exact ⟨(fun C dx fs z => by rw [q] at z; cases z), (fun b z => by rw [q] at z; cases z)⟩
/-- the parameters alone, at the end -/
theorem RS.out {K : PySem.W.Frag} {fm : Fm} {H : Hp} {σ σ0 : St} {ρ : Env} {is : List Sl} (r : RS K fm H σ ρ) (hl : σ0.length = is.length) (h : ∀ j o, Env.at is j = .own o → σ[j]? = σ0[j]?) (hF : ∀ p ∈ fm.F, ∃ o, Env.at is p.1 = .own o) (hE : Flat fm.E H) :
    RS K fm H σ0 (outOf is ρ) ∧ Mo (fm.hid σ ρ H) (fm.hid σ0 (outOf is ρ) H) := by
  have S := out_sub (ρ := ρ) hl h
  have SS := List.Sublist.append_left S fm.E
  have up : ∀ b o, fm.hid σ ρ H b = some o → fm.hid σ0 (outOf is ρ) H b = some o := fun b o q => by
    obtain ⟨m, q⟩ := hide_some q
    exact (hide_out fun z => m (SS.subset z)).trans q
  have sl : ∀ j, SlotOk K (fm.hid σ0 (outOf is ρ) H) H (σ0.getD j none) (Env.at (outOf is ρ) j) := fun j => by
    rw [at_out]
    cases e : Env.at is j with
    | no => cases (σ0.getD j none) <;> trivial
    | v d => cases (σ0.getD j none) <;> trivial
    | own o =>
      have e1 : σ0.getD j none = σ.getD j none := by rw [List.getD_eq_getElem?_getD, List.getD_eq_getElem?_getD, h j o e]
      show SlotOk K _ H (σ0.getD j none) (Env.at ρ j)
      rw [e1]; exact slotOk_up up (r.sl j)
  refine ⟨⟨by rw [out_len]; exact hl, sl, SS.nodup r.nd, fun a ha => r.tr a (SS.subset ha), r.ins, fun b C dx fs q => ?_, fun c b hc q => ?_, r.keep, fun p hp => ?_⟩, up⟩
  · have hd := r.ins b C dx fs q
    have key := own_cl sl q hd
    rw [List.mem_append, List.mem_append, key]
    have n1 : dx ∉ fm.E := fun z => (hE dx z).2 b hd
    have n2 : b ∉ fm.E := fun z => (hE b z).1 C dx fs q
    exact ⟨fun z => .inr (z.resolve_left n1), fun z => .inr (z.resolve_left n2)⟩
  · rcases List.mem_append.mp hc with z | z
    · exact ((hE c z).2 b q).elim
    · obtain ⟨h1, h2⟩ := own_co sl z q
      exact ⟨List.mem_append_right _ h1, h2⟩
  · obtain ⟨o, q⟩ := hF p hp
    rw [← h _ o q]; exact r.fx p hp

/-! ### a def's promise by its body -/
def keeps (n : Nat) (s : SpD) (w : WS) : Prop := ∀ ins Q R, s ins Q R → w (ins ++ List.replicate (n - ins.length) .no) { nx := fun ρ => Q (.v .non) (outOf ins ρ), rt := fun r ρ => (match r with | .own o => noInsO o | _ => True) ∧ Q r (outOf ins ρ), ex := fun x ρ => R x (outOf ins ρ) }
theorem ioF_own : ∀ {σ : List (Option V)} {is : List Sl} {n : Nat} {p : Nat × Addr}, p ∈ ioF n σ is → ∃ j o, p.1 = n + j ∧ Env.at is j = .own o ∧ σ[j]? = some (some (.ref p.2))
  | [], _, _, _, h => by simp [ioF] at h
  | _ :: _, [], _, _, h => by simp [ioF] at h
  | v :: σ, s :: is, n, p, h => by
    have tl : p ∈ ioF (n + 1) σ is → ∃ j o, p.1 = n + j ∧ Env.at (s :: is) j = .own o ∧ (v :: σ)[j]? = some (some (.ref p.2)) := fun h => by
      obtain ⟨j, o, h1, h2, h3⟩ := ioF_own h
      exact ⟨j + 1, o, by omega, h2, by simpa using h3⟩
    unfold ioF at h
    split at h
    · rename_i e1 e2; cases e1; cases e2
      rcases List.mem_cons.mp h with e | h
      · subst e; exact ⟨0, _, by simp, rfl, by simp⟩
      · exact tl h
    · rename_i e1 e2; cases e1; cases e2; exact tl h
    · cases h
theorem start_eq (N : List Str) (vs : List V) : start N vs = vs.map some ++ List.replicate (N.length - vs.length) none := rfl
section
variable {P : Program} {w : World} {K : PySem.W.Frag} {mg : Str → Option Value} {base : Heap}
theorem fn_body {qual : Str} {scope : Scope} {body : List Stmt} {f : Addr} {N : List Str} {s : SpD} {wb : WS} {io : List Nat} {cdv : Value} {A : Around} {outer : List PySem.Env} {sh : Shared} {H : Hp} {vs : List V} {Q : VK} {E : XK} (hio : ∀ ins Q R, s ins Q R → ∀ j o, Env.at ins j = .own o → j ∈ io)
    (hb : DB (cxOf (L2.CX P w) P w K mg base N qual scope f cdv A outer sh H E) ⟨fun cls d _ H => E cls d H, io⟩ body wb) (hk : keeps N.length s wb) (hsp : spOf K s vs H Q E) :
    ∃ t, PSs (cxOf (L2.CX P w) P w K mg base N qual scope f cdv A outer sh H E) body t ∧ t { nx := fun _ H' => Q .non H', rt := Q } (start N vs) H := by
  obtain ⟨ins, r, h⟩ := hsp
  obtain ⟨t, p, l⟩ := hb.ex
  refine ⟨t, p, ?_⟩
  have lv : vs.length = ins.length := by have := r.len; rwa [List.length_map] at this
  obtain ⟨r0, e0⟩ := r.ext (N.length - ins.length)
  have es : start N vs = vs.map some ++ List.replicate (N.length - ins.length) none := by rw [start_eq, lv]
  rw [← es] at r0 e0
  have hF : ∀ p ∈ (entryFm H vs ins).F, ∃ o, Env.at ins p.1 = .own o := fun p hp => by
    obtain ⟨j, o, h1, h2, _⟩ := ioF_own hp
    exact ⟨o, by rw [h1, Nat.zero_add]; exact h2⟩
  have hF2 : ∀ p ∈ (entryFm H vs ins).F, p.1 ∈ io := fun p hp => by
    obtain ⟨o, q⟩ := hF p hp
    exact hio _ _ _ h _ o q
  -- at an end: the parameters that are handed back stand where they stood
  have same : ∀ {B : List Addr} {σ' : St} {H' : Hp} {ρ' : Env}, RS K ((entryFm H vs ins).ex B) H' σ' ρ' → ∀ j o, Env.at ins j = .own o → σ'[j]? = (vs.map some)[j]? := fun {B σ' H' ρ'} r' j o q => by
    obtain ⟨a, ha⟩ := r.own_at q
    have mem := ioF_at (n := 0) ha q
    rw [Nat.zero_add] at mem
    rw [ha]; exact r'.fx _ mem
  have lm : (vs.map some).length = ins.length := r.len
  refine l (entryFm H vs ins) H (start N vs) _ _ _ r0 hF2 (hk ins _ _ h) ⟨fun σ' H' ρ' q r' m => ?_, fun v σ' H' sl ρ' q r' m ro => ?_, fun _ _ _ z => z.elim, fun _ _ _ z => z.elim, fun x σ' H' ρ' cls dd q r' m xr => ?_⟩
  · obtain ⟨o1, _⟩ := RS.out r' lm (same (B := []) r') hF (Flat.nil _)
    exact q _ H' o1 .non
  · obtain ⟨o1, o2⟩ := RS.out r' lm (same (B := []) r') hF (Flat.nil _)
    refine q.2 v H' o1 ?_
    cases sl with
    | no => exact ro
    | v d => exact Rep.mono o2 ro
    | own o =>
      obtain ⟨p, ep, r2, oa⟩ := ro
      obtain ⟨o3, o4⟩ := RS.out r2 lm (same r2) hF (by
        show Flat (ownAs p o ++ []) H'
        rw [List.append_nil]; exact flat_own q.1 oa)
      refine ⟨p, ep, o3, ?_⟩
      have e1 : ∀ ρ σ, hide (ownAs p o ++ ((entryFm H vs ins).E ++ owned σ ρ)) H' = ((entryFm H vs ins).ex (ownAs p o)).hid σ ρ H' := fun ρ σ => by
        show hide (ownAs p o ++ ([] ++ owned σ ρ)) H' = hide ((ownAs p o ++ []) ++ owned σ ρ) H'
        rw [List.append_nil]; rfl
      rw [e1] at oa ⊢
      cases o with
      | lst ds => obtain ⟨us, h1, h2⟩ := oa; exact ⟨us, h1, h2.mono o4⟩
      | dic ks ds => obtain ⟨us, h1, h2, h3⟩ := oa; exact ⟨us, h1, h2, h3.mono o4⟩
      | ins C dx ns ds => exact q.1.elim
  · obtain ⟨o1, o2⟩ := RS.out r' lm (same (B := []) r') hF (Flat.nil _)
    refine q cls dd H' o1 ⟨xr.1, ?_⟩
    have := xr.2
    cases dd with
    | none => exact this
    | some a => obtain ⟨fs, h1, h2, h3⟩ := this; exact ⟨fs, h1, h2, h3.mono o2⟩
theorem fn_ok {x qual : Str} {st : Stmt} {f : Addr} {fd : FuncData} {N ps : List Str} {k : Nat} {s : SpD} {wb : WS} {io : List Nat} (F : Fun K x qual st f fd) (S : FnScope N ps (defScope st)) (hlen : ∀ ins Q R, s ins Q R → ins.length = ps.length) (hio : ∀ ins Q R, s ins Q R → ∀ j o, Env.at ins j = .own o → j ∈ io)
    (hb : ∀ (cdv : Value) (A : Around) (outer : List PySem.Env) (sh : Shared) (H : Hp) (E : XK), Room k (A.deeper (PyProof.Rows.envOfC qual (defScope st) sh.heap.objs.size f cdv)) → DB (cxOf (L2.CX P w) P w K mg base N qual (defScope st) f cdv A outer sh H E) ⟨fun cls d _ H => E cls d H, io⟩ (defBody st) wb)
    (hk : keeps N.length s wb) : FnOk P w K mg base (L2.CX P w) (k + 1) f fd ps (spOf K s) := by
  refine F.okX S (fun vs H Q E h => ?_) fun cdv A outer sh H vs Q E hr hsp => fn_body hio (hb cdv A outer sh H E hr) hk hsp
  obtain ⟨ins, r, h⟩ := h
  rw [← hlen _ _ _ h, ← r.len, List.length_map]
/-- a def with defaults -/
theorem fn_okD {x qual : Str} {params : Arguments} {body : List Stmt} {scope : Scope} {dvs : List V} {kws : List (Str × V)} {f : Addr} {fd : FuncData} {N ps : List Str} {k : Nat} {s : SpD} {wb : WS} {io : List Nat} (F : FunD K x qual params body scope dvs kws f fd) (S : FnScope N ps scope) (hlen : ∀ ins Q R, s ins Q R → ins.length = ps.length) (hio : ∀ ins Q R, s ins Q R → ∀ j o, Env.at ins j = .own o → j ∈ io)
    (hb : ∀ (cdv : Value) (A : Around) (outer : List PySem.Env) (sh : Shared) (H : Hp) (E : XK), Room k (A.deeper (PyProof.Rows.envOfC qual scope sh.heap.objs.size f cdv)) → DB (cxOf (L2.CX P w) P w K mg base N qual scope f cdv A outer sh H E) ⟨fun cls d _ H => E cls d H, io⟩ body wb)
    (hk : keeps N.length s wb) : FnOk P w K mg base (L2.CX P w) (k + 1) f fd ps (spOf K s) := by
  refine F.ok S (fun vs H Q E h => ?_) fun cdv A outer sh H vs Q E hr hsp => fn_body hio (hb cdv A outer sh H E hr) hk hsp
  obtain ⟨ins, r, h⟩ := h
  rw [← hlen _ _ _ h, ← r.len, List.length_map]
end
end DL

set_option Elab.async false
set_option linter.all false
set_option maxRecDepth 100000
namespace DL
open PySem L2

/-! ## calls, from the caller's side -/
theorem RS.hidOk {K : PySem.W.Frag} {fm : Fm} {H : Hp} {σ : St} {ρ : Env} (r : RS K fm H σ ρ) : HidOk (fm.E ++ owned σ ρ) H :=
  ⟨fun a ha => (r.tr a ha).1, fun b C dx fs hb h => (r.cl b C dx fs h).mpr hb, fun c b hc h => (r.co c b hc h).1⟩
theorem slot_no (K : PySem.W.Frag) (Hm H : Hp) (x : Option V) : SlotOk K Hm H x .no := by cases x <;> trivial
/-- the heap that a callee sees, its arguments values alone -/
theorem entry0 {K : PySem.W.Frag} {A : List Addr} {H : Hp} {vs : List V} {ds : List D} (ins : ∀ b C dx fs, H b = some (.ins C dx fs) → H dx = some (.own b)) (co : ∀ c b, c ∈ A → H c = some (.own b) → b ∈ A) (h : Reps K (hide A H) vs ds) :
    RS K (entryFm (hide A H) vs (ds.map Sl.v)) (hide A H) (vs.map some) (ds.map Sl.v) ∧ owned (vs.map some) (ds.map Sl.v) = [] ∧ ioF 0 (vs.map some) (ds.map Sl.v) = [] := by
  have ow : ∀ (vs : List V) (ds : List D), owned (vs.map some) (ds.map Sl.v) = [] := by
    intro vs
    induction vs with
    | nil => intro ds; rfl
    | cons v vs ih => intro ds; cases ds with
      | nil => rfl
      | cons d ds => show slotAs (some v) (.v d) ++ owned (vs.map some) (ds.map Sl.v) = []; rw [slotAs_v, ih]; rfl
  have io : ∀ (n : Nat) (vs : List V) (ds : List D), ioF n (vs.map some) (ds.map Sl.v) = [] := by
    intro n vs
    induction vs generalizing n with
    | nil => intro ds; cases ds <;> rfl
    | cons v vs ih => intro ds; cases ds with
      | nil => cases v <;> rfl
      | cons d ds => have := ih (n + 1) ds; cases v <;> exact this
  have e := ow vs ds
  have atv : ∀ (vs : List V) (ds : List D) (Hm : Hp), Reps K Hm vs ds → ∀ j, SlotOk K Hm (hide A H) ((vs.map some).getD j none) (Env.at (ds.map Sl.v) j) := by
    intro vs
    induction vs with
    | nil => intro ds Hm h j; cases h; exact slot_no ..
    | cons v vs ih => intro ds Hm h j; cases h with | cons h1 h2 => cases j with
      | zero => exact h1
      | succ j => exact ih _ Hm h2 j
  have hid0 : ∀ ρ : List Addr, ρ = [] → hide ρ (hide A H) = hide A H := fun ρ e => by subst e; funext b; exact hide_out (by simp)
  refine ⟨⟨by simp [h.length], fun j => ?_, (by rw [e]; exact List.nodup_nil), (by rw [e]; intro a ha; cases ha), fun b C dx fs q => ?_, (by rw [e]; intro b C dx fs _; simp), (by rw [e]; intro c b hc; cases hc), fun b o q => ?_, fun p hp => ?_⟩, e, io 0 vs ds⟩
  · show SlotOk K (hide ([] ++ owned (vs.map some) (ds.map Sl.v)) (hide A H)) _ _ _
    rw [hid0 _ (by rw [e]; rfl)]; exact atv vs ds _ h j
  · obtain ⟨nb, q⟩ := hide_some q
    have := ins b C dx fs q
    exact (hide_out fun z => nb (co dx b z this)).trans this
  · exact hid_le b o q
  · rw [show (entryFm (hide A H) vs (ds.map Sl.v)).F = ioF 0 (vs.map some) (ds.map Sl.v) from rfl, io] at hp; cases hp
/-- behind such a call -/
theorem post0 {K : PySem.W.Frag} {fm : Fm} {H H' : Hp} {σ : St} {ρ : Env} {vs : List V} {ds : List D} {out : List Sl} (s : RS K fm H σ ρ) (h : Reps K (fm.hid σ ρ H) vs ds) (no : ∀ a ∈ fm.E ++ owned σ ρ, H' a = none)
    (ro : RS K (entryFm (hide (fm.E ++ owned σ ρ) H) vs (ds.map Sl.v)) H' (vs.map some) out) :
    To K fm σ H ρ (over (fm.E ++ owned σ ρ) H H') ρ ∧ (∀ b o, H' b = some o → over (fm.E ++ owned σ ρ) H H' b = some o) ∧ (∀ b o, H' b = some o → fm.hid σ ρ (over (fm.E ++ owned σ ρ) H H') b = some o) ∧ ∀ (v : V) (r : Sl), RetOk K (entryFm (hide (fm.E ++ owned σ ρ) H) vs (ds.map Sl.v)) (vs.map some) out H' v r → (match r with
      | .no => False
      | .v d => Rep K (fm.hid σ ρ (over (fm.E ++ owned σ ρ) H H')) v d
      | .own o => ∃ p, v = .ref p ∧ (noInsO o → NewO K fm σ H ρ (over (fm.E ++ owned σ ρ) H H') ρ p o)) := by
  obtain ⟨en, eo, ei⟩ := entry0 s.ins (fun c b hc q => (s.co c b hc q).1) h
  -- what was seen is there
  have gk : ∀ b o, fm.hid σ ρ H b = some o → H' b = some o := fun b o q => ro.keep b o (by
    show hide (owned (vs.map some) (ds.map Sl.v)) (hide (fm.E ++ owned σ ρ) H) b = some o
    rw [eo]; exact (hide_out (by simp)).trans q)
  have vis : ∀ c u, H' c = some u → over (fm.E ++ owned σ ρ) H H' c = some u := fun c u q => (over_out fun hc => by rw [no c hc] at q; cases q).trans q
  have upAll : ∀ b o, H b = some o → over (fm.E ++ owned σ ρ) H H' b = some o := fun b o q => by
    by_cases hb : b ∈ fm.E ++ owned σ ρ
    · rw [over_in hb]; exact q
    · exact vis b o (gk b o ((hide_out hb).trans q))
  have hidUp : ∀ b o, fm.hid σ ρ H b = some o → fm.hid σ ρ (over (fm.E ++ owned σ ρ) H H') b = some o := fun b o q => by
    obtain ⟨m, q⟩ := hide_some q
    exact (hide_out m).trans (upAll b o q)
  have hid2 : ∀ b o, H' b = some o → fm.hid σ ρ (over (fm.E ++ owned σ ρ) H H') b = some o := fun b o q => (hide_out fun hc => by rw [no b hc] at q; cases q).trans (vis b o q)
  have rs : RS K fm (over (fm.E ++ owned σ ρ) H H') σ ρ := by
    refine ⟨s.len, fun j => ?_, s.nd, fun a ha => ?_, fun b C dx fs q => ?_, fun b C dx fs q => ?_, fun c b hc q => ?_, fun b o q => upAll b o (s.keep b o q), s.fx⟩
    · have q := s.sl j
      revert q
      cases σ.getD j none with
      | none => cases Env.at ρ j <;> exact fun q => q
      | some v =>
        cases Env.at ρ j with
        | no => exact fun q => q
        | v d => exact fun q => Rep.mono hidUp q
        | own od =>
          cases v with
          | ref a =>
            intro q
            cases od with
            | lst ds => obtain ⟨vs, h1, h2⟩ := q; exact ⟨vs, upAll _ _ h1, h2.mono hidUp⟩
            | dic ks ds => obtain ⟨kvs, h1, h2, h3⟩ := q; exact ⟨kvs, upAll _ _ h1, h2, h3.mono hidUp⟩
            | ins C dx ns ds => obtain ⟨fs, h1, h2, h3, h4⟩ := q; exact ⟨fs, upAll _ _ h1, h2, h3.mono hidUp, upAll _ _ h4⟩
          | _ => exact fun q => q
    · obtain ⟨⟨o, q, w⟩, g⟩ := s.tr a ha
      exact ⟨⟨o, upAll a o q, w⟩, g⟩
    · by_cases hb : b ∈ fm.E ++ owned σ ρ
      · rw [over_in hb] at q; exact upAll _ _ (s.ins b C dx fs q)
      · rw [over_out hb] at q; exact vis _ _ (ro.ins b C dx fs q)
    · by_cases hb : b ∈ fm.E ++ owned σ ρ
      · rw [over_in hb] at q; exact s.cl b C dx fs q
      · rw [over_out hb] at q
        have := ro.ins b C dx fs q
        exact ⟨(fun z => by rw [no dx z] at this; cases this), fun z => (hb z).elim⟩
    · rw [over_in hc] at q
      obtain ⟨h1, C, fs, h2⟩ := s.co c b hc q
      exact ⟨h1, C, fs, upAll _ _ h2⟩
  have to : To K fm σ H ρ (over (fm.E ++ owned σ ρ) H H') ρ := ⟨rs, fun b o q _ => upAll b o q, fun _ z => z⟩
  refine ⟨to, vis, hid2, fun v r rt => ?_⟩
  cases r with
  | no => exact rt
  | v d => exact Rep.mono (fun b o q => hid2 b o (hid_le b o q)) rt
  | own o =>
    obtain ⟨p, ep, r2, oa⟩ := rt
    refine ⟨p, ep, fun ni => ?_⟩
    have fl := flat_own ni oa
    have onlyP : ∀ a ∈ ownAs p o, a = p := fun a ha => by cases o with
      | ins C dx ns ds => exact ni.elim
      | _ => simpa [ownAs] using ha
    have hp' : ∃ u, H' p = some u ∧ Ownable u := (r2.tr p (List.mem_append_left _ (List.mem_append_left _ (mem_ownAs p o)))).1
    obtain ⟨u, hu, ou⟩ := hp'
    have gp : (entryFm (hide (fm.E ++ owned σ ρ) H) vs (ds.map Sl.v)).G p = none := (r2.tr p (List.mem_append_left _ (List.mem_append_left _ (mem_ownAs p o)))).2
    have gp' : hide (fm.E ++ owned σ ρ) H p = none := by
      have : hide (owned (vs.map some) (ds.map Sl.v)) (hide (fm.E ++ owned σ ρ) H) p = none := gp
      rw [eo] at this; exact (hide_out (by simp)).symm.trans this
    have pA : p ∉ fm.E ++ owned σ ρ := fun z => by rw [no p z] at hu; cases hu
    have hpN : H p = none := (hide_out pA).symm.trans gp'
    have fmG : fm.G p = none := by
      cases q : fm.G p with
      | none => rfl
      | some o => have := s.keep p o q; rw [hpN] at this; cases this
    have assoc : ∀ a, a ∈ (fm.ex (ownAs p o)).E ++ owned σ ρ ↔ (a = p ∨ a ∈ fm.E ++ owned σ ρ) := fun a => by
      rw [show (fm.ex (ownAs p o)).E ++ owned σ ρ = ownAs p o ++ (fm.E ++ owned σ ρ) from List.append_assoc .., List.mem_append]
      exact ⟨fun z => z.imp (onlyP a) id, fun z => z.imp (fun e => by rw [e]; exact mem_ownAs p o) id⟩
    have nd0 : (ownAs p o).Nodup := by cases o with
      | ins C dx ns ds => exact ni.elim
      | _ => simp [ownAs]
    -- what was seen ahead of the call is not the new object
    have moEx : ∀ b x, fm.hid σ ρ H b = some x → (fm.ex (ownAs p o)).hid σ ρ (over (fm.E ++ owned σ ρ) H H') b = some x := fun b x q => by
      obtain ⟨m, q⟩ := hide_some q
      refine (hide_out fun z => ?_).trans (upAll b x q)
      rcases (assoc b).mp z with e | e
      · rw [e, hpN] at q; cases q
      · exact m e
    refine ⟨to, ⟨s.len, fun j => ?_, ?_, fun a ha => ?_, rs.ins, fun b C dx fs q => ?_, fun c b hc q => ?_, rs.keep, s.fx⟩, moEx, ?_⟩
    · have q := s.sl j
      revert q
      cases σ.getD j none with
      | none => cases Env.at ρ j <;> exact fun q => q
      | some v =>
        cases Env.at ρ j with
        | no => exact fun q => q
        | v d => exact fun q => Rep.mono moEx q
        | own od =>
          cases v with
          | ref a =>
            intro q
            cases od with
            | lst ds => obtain ⟨vs, h1, h2⟩ := q; exact ⟨vs, upAll _ _ h1, h2.mono moEx⟩
            | dic ks ds => obtain ⟨kvs, h1, h2, h3⟩ := q; exact ⟨kvs, upAll _ _ h1, h2, h3.mono moEx⟩
            | ins C dx ns ds => obtain ⟨fs, h1, h2, h3, h4⟩ := q; exact ⟨fs, upAll _ _ h1, h2, h3.mono moEx, upAll _ _ h4⟩
          | _ => exact fun q => q
    · rw [show (fm.ex (ownAs p o)).E ++ owned σ ρ = ownAs p o ++ (fm.E ++ owned σ ρ) from List.append_assoc ..]
      exact List.nodup_append.mpr ⟨nd0, s.nd, fun a ha b hb e => by subst e; rw [onlyP a ha] at hb; exact pA hb⟩
    · rcases (assoc a).mp ha with e | e
      · subst e; exact ⟨⟨u, vis _ _ hu, ou⟩, fmG⟩
      · exact rs.tr a e
    · have c := rs.cl b C dx fs q
      have hd := rs.ins b C dx fs q
      have fp := fl p (mem_ownAs p o)
      have nb : b ≠ p := fun e => by subst e; rw [over_out pA] at q; exact fp.1 _ _ _ q
      have nd' : dx ≠ p := fun e => by subst e; rw [over_out pA] at hd; exact fp.2 _ hd
      rw [assoc, assoc]
      exact ⟨fun z => .inr (c.mp (z.resolve_left nd')), fun z => .inr (c.mpr (z.resolve_left nb))⟩
    · rcases (assoc c).mp hc with e | e
      · subst e
        rw [over_out pA] at q
        exact ((fl c (mem_ownAs c o)).2 b q).elim
      · obtain ⟨h1, h2⟩ := rs.co c b e q
        exact ⟨(assoc b).mpr (.inr h1), h2⟩
    · have upO : ∀ b x, hide (ownAs p o ++ ((entryFm (hide (fm.E ++ owned σ ρ) H) vs (ds.map Sl.v)).E ++ owned (vs.map some) out)) H' b = some x → hide (ownAs p o ++ (fm.E ++ owned σ ρ)) (over (fm.E ++ owned σ ρ) H H') b = some x := fun b x q => by
        obtain ⟨m, q⟩ := hide_some q
        refine (hide_out fun z => ?_).trans (vis b x q)
        rcases List.mem_append.mp z with z | z
        · exact m (List.mem_append_left _ z)
        · rw [no b z] at q; cases q
      cases o with
      | lst ds => obtain ⟨us, h1, h2⟩ := oa; exact ⟨us, vis _ _ h1, h2.mono upO⟩
      | dic ks ds => obtain ⟨us, h1, h2, h3⟩ := oa; exact ⟨us, vis _ _ h1, h2, h3.mono upO⟩
      | ins C dx ns ds => exact ni.elim

/-- a result as data -/
def Sl.asD (s : Sl) (k : D → Prop) : Prop := match s with | .v d => k d | .own o => noInsO o ∧ k o.toD | .no => False
def Sl.asO (s : Sl) (k : OD → Prop) : Prop := match s with | .own o => noInsO o ∧ k o | _ => False
def wCall0 (sp : SpD) (a : WA) : WE := fun ρ Q R => a ρ (fun ds ρ1 => sp (ds.map Sl.v) (fun r _ => r.asD fun d => Q d ρ1) fun x _ => R x ρ1) R
def wCall0O (sp : SpD) (a : WA) : WO := fun ρ Q R => a ρ (fun ds ρ1 => sp (ds.map Sl.v) (fun r _ => r.asO fun o => Q o ρ1) fun x _ => R x ρ1) R
section
variable {X : Cx} {W : WW} {K : PySem.W.Frag}
theorem exr_up {Hm Hm' H H' : Hp} {cls : Value} {dd : Option Addr} {x : Exn} (u1 : ∀ b o, Hm b = some o → Hm' b = some o) (u2 : ∀ b o, H b = some o → H' b = some o) (h : ExR K Hm H cls dd x) : ExR K Hm' H' cls dd x := by
  refine ⟨h.1, ?_⟩
  have := h.2
  cases dd with
  | none => exact this
  | some a => obtain ⟨fs, h1, h2, h3⟩ := this; exact ⟨fs, u2 _ _ h1, h2, h3.mono u1⟩
def MonoSp (sp : SpD) : Prop := ∀ ins Q Q' R R', (∀ r out, Q r out → Q' r out) → (∀ x out, R x out → R' x out) → sp ins Q R → sp ins Q' R'
theorem le_call0 {sp : SpD} {t : TA} {a : WA} (mo : MonoSp sp) (ha : LA K W t a) : LE K W (tCallF (spOf K sp) [] W.x t) (wCall0 sp a) := fun fm H σ ρ Q R QV s q x k =>
  ha fm H σ ρ _ R _ s q x fun vs H1 ds ρ1 q1 g1 r1 => by
    refine ⟨fm.E ++ owned σ ρ1, g1.rs.hidOk, ?_⟩
    rw [List.append_nil]
    refine ⟨ds.map Sl.v, (entry0 g1.rs.ins (fun c b hc q => (g1.rs.co c b hc q).1) r1).1, mo _ _ _ _ _ (fun r out qr => ?_) (fun ex out qr => ?_) q1⟩
    · intro v H' ro rt no
      obtain ⟨to, vis, hid2, rr⟩ := post0 g1.rs r1 no ro
      have rr := rr v r rt
      cases r with
      | no => exact rr.elim
      | v d => exact k v _ d ρ1 qr (g1.trans to) rr
      | own o =>
        obtain ⟨p, rfl, nn⟩ := rr
        have n := nn qr.1
        exact k _ _ o.toD ρ1 qr.2 (g1.trans to) (own_rep (B := ownAs p o) n.oa (n.rs.notin (mem_ownAs p o)))
    · intro cls dd H' ro er no
      obtain ⟨to, vis, hid2, -⟩ := post0 g1.rs r1 no ro
      exact x.ok ex ρ1 _ cls dd qr (g1.trans to) (exr_up (fun b o q => hid2 b o (hid_le b o q)) vis er)
theorem lo_call0 {sp : SpD} {t : TA} {a : WA} (mo : MonoSp sp) (ha : LA K W t a) : LO K W (tCallF (spOf K sp) [] W.x t) (wCall0O sp a) := fun fm H σ ρ Q R QV s q x k =>
  ha fm H σ ρ _ R _ s q x fun vs H1 ds ρ1 q1 g1 r1 => by
    refine ⟨fm.E ++ owned σ ρ1, g1.rs.hidOk, ?_⟩
    rw [List.append_nil]
    refine ⟨ds.map Sl.v, (entry0 g1.rs.ins (fun c b hc q => (g1.rs.co c b hc q).1) r1).1, mo _ _ _ _ _ (fun r out qr => ?_) (fun ex out qr => ?_) q1⟩
    · intro v H' ro rt no
      obtain ⟨to, vis, hid2, rr⟩ := post0 g1.rs r1 no ro
      have rr := rr v r rt
      cases r with
      | own o =>
        obtain ⟨p, rfl, nn⟩ := rr
        exact k _ _ o ρ1 qr.2 (.of g1 (nn qr.1))
      | _ => exact qr.elim
    · intro cls dd H' ro er no
      obtain ⟨to, vis, hid2, -⟩ := post0 g1.rs r1 no ro
      exact x.ok ex ρ1 _ cls dd qr (g1.trans to) (exr_up (fun b o q => hid2 b o (hid_le b o q)) vis er)
theorem le_callN {sp : SpD} (mo : MonoSp sp) : LE K W (tCallF (spOf K sp) [] W.x tNil) (wCall0 sp fun ρ Q _ => Q [] ρ) := le_call0 mo fun fm H σ ρ Q R QV r q x k => k [] H [] ρ q (.refl r) .nil
theorem lo_callN {sp : SpD} (mo : MonoSp sp) : LO K W (tCallF (spOf K sp) [] W.x tNil) (wCall0O sp fun ρ Q _ => Q [] ρ) := lo_call0 mo fun fm H σ ρ Q R QV r q x k => k [] H [] ρ q (.refl r) .nil
end
section
variable {X : Cx} {W : WW} {f : Addr} {fd : FuncData} {k : Nat} {x : Str} {e : Expr} {es : List Expr} {ps : List Str} {sp : SpD} {a : WA} {p pos : Pos}
theorem de_call (F : FnOk X.prog X.w X.K X.mg X.base (L2.CX X.prog X.w) k f fd ps (spOf X.K sp)) (mo : MonoSp sp) (hr : Room k X.A) (hg : Gl X x) (hm : X.mg x = some (.ref f)) (hk : PySem.W.keepIn X.K (.ref f) = true) (hb : Binds X.K fd ps []) (tk : Takes X W.x)
    (ha : DA X W (e :: es) a) (hdb : (x == ("__debug__" : Str)) = false := by decide) (he : starEach (e :: es) X.env = (false, eval e X.env) :: starEach es X.env := by rfl) (hpl : (backTo pos (starEach es X.env)).any (·.1) = false := by rfl) :
    DE X W (.Call (.Name x p) (e :: es) [] pos) (wCall0 sp a) := by
  obtain ⟨t, p1, l⟩ := ha.ex
  exact ⟨_, pe_callF F hr hg hm hk hb (.nil) tk p1 hdb he hpl, le_call0 mo l⟩
theorem do_call (F : FnOk X.prog X.w X.K X.mg X.base (L2.CX X.prog X.w) k f fd ps (spOf X.K sp)) (mo : MonoSp sp) (hr : Room k X.A) (hg : Gl X x) (hm : X.mg x = some (.ref f)) (hk : PySem.W.keepIn X.K (.ref f) = true) (hb : Binds X.K fd ps []) (tk : Takes X W.x)
    (ha : DA X W (e :: es) a) (hdb : (x == ("__debug__" : Str)) = false := by decide) (he : starEach (e :: es) X.env = (false, eval e X.env) :: starEach es X.env := by rfl) (hpl : (backTo pos (starEach es X.env)).any (·.1) = false := by rfl) :
    DO X W (.Call (.Name x p) (e :: es) [] pos) (wCall0O sp a) := by
  obtain ⟨t, p1, l⟩ := ha.ex
  exact ⟨_, pe_callF F hr hg hm hk hb (.nil) tk p1 hdb he hpl, lo_call0 mo l⟩
end
end DL

set_option Elab.async false
set_option linter.all false
set_option maxRecDepth 100000
namespace DL
open PySem L2

/-! ## calls with a frame's own objects -/
inductive Ar where
  | v (d : D)
  | o (i : Nat)
def ArOk (K : PySem.W.Frag) (Hm : Hp) (σ : St) : List V → List Ar → Prop
  | [], [] => True
  | v :: vs, .v d :: as => Rep K Hm v d ∧ ArOk K Hm σ vs as
  | v :: vs, .o i :: as => σ[i]? = some (some v) ∧ ArOk K Hm σ vs as
  | _, _ => False
theorem ArOk.mono {K : PySem.W.Frag} {Hm Hm' : Hp} {σ : St} (m : Mo Hm Hm') : ∀ {vs : List V} {as : List Ar}, ArOk K Hm σ vs as → ArOk K Hm' σ vs as
  | [], [], h => h
  | v :: vs, .v d :: as, h => ⟨h.1.mono m, ArOk.mono m h.2⟩
  | v :: vs, .o i :: as, h => ⟨h.1, ArOk.mono m h.2⟩
  | [], _ :: _, h => h.elim
  | _ :: _, [], h => h.elim
/-- the arguments' own objects are taken out of their slots -/
def takeA : List Ar → Env → (List Sl → Env → Prop) → Prop
  | [], ρ, k => k [] ρ
  | .v d :: as, ρ, k => takeA as ρ fun ins ρ' => k (.v d :: ins) ρ'
  | .o i :: as, ρ, k => takeK ρ i fun o ρ1 => takeA as ρ1 fun ins ρ' => k (.own o :: ins) ρ'
/-- and put back -/
def backA : List Ar → List Sl → Env → (Env → Prop) → Prop
  | [], [], ρ, k => k ρ
  | .v _ :: as, .own _ :: out, ρ, k => False
  | .v _ :: as, _ :: out, ρ, k => backA as out ρ k
  | .o i :: as, .own (.ins _ _ _ _) :: out, ρ, k => False
  | .o i :: as, .own o :: out, ρ, k => backA as out (Env.put ρ i (.own o)) k
  | _, _, _, _ => False
theorem hide_congr {A B : List Addr} (h : ∀ b, b ∈ A ↔ b ∈ B) (H : Hp) : hide A H = hide B H := funext fun b => by
  by_cases q : b ∈ A
  · rw [hide_in q, hide_in ((h b).mp q)]
  · rw [hide_out q, hide_out fun z => q ((h b).mpr z)]
theorem RS.permE {K : PySem.W.Frag} {G : Hp} {E E' : List Addr} {F : List (Nat × Addr)} {H : Hp} {σ : St} {ρ : Env} (r : RS K ⟨G, E, F⟩ H σ ρ) (p : E.Perm E') : RS K ⟨G, E', F⟩ H σ ρ := by
  have m : ∀ b, b ∈ E ++ owned σ ρ ↔ b ∈ E' ++ owned σ ρ := fun b => (p.append_right _).mem_iff
  refine ⟨r.len, fun i => ?_, (p.append_right _).nodup_iff.mp r.nd, fun a h => r.tr a ((m a).mpr h), r.ins, fun b C dx fs h => ?_, fun c b hc h => ?_, r.keep, r.fx⟩
  · have := r.sl i
    show SlotOk K (hide (E' ++ owned σ ρ) H) H _ _
    rw [← hide_congr m H]; exact this
  · rw [← m, ← m]; exact r.cl b C dx fs h
  · rw [← m]; exact r.co c b ((m c).mpr hc) h
theorem Flat.cons {K : PySem.W.Frag} {Hm H : Hp} {a : Addr} {o : OD} {B : List Addr} (n : noInsO o) (h : OwnAt K Hm H a o) (f : Flat B H) : Flat (ownAs a o ++ B) H := fun b hb =>
  (List.mem_append.mp hb).elim (flat_own n h b) (f b)
theorem ownAs_eq {a : Addr} {o : OD} (n : noInsO o) : ownAs a o = [a] := by cases o with
  | ins C dx ns ds => exact n.elim
  | _ => rfl
/-- the arguments' objects, out of their slots -/
structure Tkn (K : PySem.W.Frag) (fm : Fm) (H : Hp) (σ : St) (ρ : Env) (vs : List V) (as : List Ar) (ins : List Sl) (ρ0 : Env) : Prop where
  rs : RS K (fm.ex (owned (vs.map some) ins)) H σ ρ0
  sl : ∀ j, SlotOk K (hide (owned (vs.map some) ins ++ (fm.E ++ owned σ ρ0)) H) H ((vs.map some).getD j none) (Env.at ins j)
  flat : Flat (owned (vs.map some) ins) H
  noi : ∀ j, noIns (Env.at ins j)
  len : vs.length = ins.length
  mo : Mo (fm.hid σ ρ H) ((fm.ex (owned (vs.map some) ins)).hid σ ρ0 H)
  sub : ∀ a, a ∈ owned (vs.map some) ins ++ owned σ ρ0 → a ∈ owned σ ρ
  fx : ∀ n, ∀ p ∈ ioF n (vs.map some) ins, ∃ j, p.1 = n + j ∧ (vs.map some)[j]? = some (some (.ref p.2))
  back : ∀ out ρ k, backA as out ρ k → owned (vs.map some) out = owned (vs.map some) ins ∧ ∀ j, noIns (Env.at out j)
theorem take_all {K : PySem.W.Frag} {H : Hp} {σ : St} : ∀ {vs : List V} {as : List Ar} {fm : Fm} {ρ : Env} {k : List Sl → Env → Prop}, RS K fm H σ ρ → ArOk K (fm.hid σ ρ H) σ vs as → takeA as ρ k → ∃ ins ρ0, k ins ρ0 ∧ Tkn K fm H σ ρ vs as ins ρ0 ∧ (∀ i, noIns (Env.at ρ i) → noIns (Env.at ρ0 i)) ∧ (∀ i, Ar.o i ∈ as → Env.at ρ0 i = .no ∧ i < ρ0.length) ∧ ∀ i, Env.at ρ i = .no → Env.at ρ0 i = .no
  | [], [], fm, ρ, k, r, h, q => ⟨[], ρ, q, ⟨r, fun j => slot_no .., Flat.nil H, fun j => trivial, rfl, fun _ _ z => z, fun a z => z, (fun n p hp => nomatch hp), fun out _ _ q => by cases out with
    | nil => exact ⟨rfl, fun j => trivial⟩
    | cons _ _ => exact q.elim⟩, fun _ z => z, (fun i hi => by cases hi), fun _ z => z⟩
  | v :: vs, .v d :: as, fm, ρ, k, r, h, q => by
    obtain ⟨ins, ρ0, q0, t, n1, n2, n3⟩ := take_all r h.2 q
    have e : owned ((v :: vs).map some) (.v d :: ins) = owned (vs.map some) ins := by
      show slotAs (some v) (.v d) ++ owned (vs.map some) ins = _
      rw [slotAs_v]; rfl
    refine ⟨.v d :: ins, ρ0, q0, ⟨by rw [e]; exact t.rs, fun j => ?_, by rw [e]; exact t.flat, fun j => ?_, congrArg Nat.succ t.len, (by rw [e]; exact t.mo), (by rw [e]; exact t.sub), fun n p hp => ?_, fun out ρ' k' q => ?_⟩, n1, fun i hi => n2 i ((List.mem_cons.mp hi).resolve_left (fun z => by cases z)), n3⟩
    · rw [e]
      cases j with
      | zero =>
        refine Rep.mono (fun b o z => ?_) h.1
        rw [← show (fm.ex (owned (vs.map some) ins)).hid σ ρ0 H = hide (owned (vs.map some) ins ++ (fm.E ++ owned σ ρ0)) H from congrArg (hide · H) (List.append_assoc ..)]
        exact t.mo b o z
      | succ j => exact t.sl j
    · cases j with
      | zero => trivial
      | succ j => exact t.noi j
    · have hp' : p ∈ ioF (n + 1) (vs.map some) ins := by cases v <;> exact hp
      obtain ⟨j, e1, e2⟩ := t.fx (n + 1) p hp'
      exact ⟨j + 1, by omega, e2⟩
    · rw [e]
      cases out with
      | nil => exact q.elim
      | cons s out =>
        cases s with
        | own o => exact q.elim
        | no =>
          obtain ⟨b1, b2⟩ := t.back out ρ' k' q
          exact ⟨(show slotAs (some v) .no ++ owned (vs.map some) out = _ by rw [slotAs_no]; exact b1), fun j => by cases j with
            | zero => trivial
            | succ j => exact b2 j⟩
        | v d' =>
          obtain ⟨b1, b2⟩ := t.back out ρ' k' q
          exact ⟨(show slotAs (some v) (.v d') ++ owned (vs.map some) out = _ by rw [slotAs_v]; exact b1), fun j => by cases j with
            | zero => trivial
            | succ j => exact b2 j⟩
  | v :: vs, .o i :: as, fm, ρ, k, r, h, q => by
    obtain ⟨o, ho, no, q1⟩ := takeK_spec q
    obtain ⟨a, hv⟩ := r.own_at ho
    have ev : v = .ref a := by have := h.1.symm.trans hv; simpa using this
    subst ev
    obtain ⟨r1, oa, m1⟩ := r.take hv ho no
    have hi := at_lt ho
    obtain ⟨ins, ρ0, q0, t, n1, n2, n3⟩ := take_all r1 (h.2.mono m1) q1
    have eo := ownAs_eq (a := a) no
    have e : owned ((V.ref a :: vs).map some) (.own o :: ins) = ownAs a o ++ owned (vs.map some) ins := rfl
    have pm : (((fm.ex (ownAs a o)).ex (owned (vs.map some) ins)).E).Perm ((fm.ex (ownAs a o ++ owned (vs.map some) ins)).E) := by
      show (owned (vs.map some) ins ++ (ownAs a o ++ fm.E)).Perm ((ownAs a o ++ owned (vs.map some) ins) ++ fm.E)
      rw [← List.append_assoc]
      exact List.Perm.append_right _ List.perm_append_comm
    have hm : ((fm.ex (ownAs a o)).ex (owned (vs.map some) ins)).hid σ ρ0 H = hide ((ownAs a o ++ owned (vs.map some) ins) ++ (fm.E ++ owned σ ρ0)) H := by
      refine hide_congr (fun b => ?_) H
      rw [← List.append_assoc (as := ownAs a o ++ owned (vs.map some) ins)]
      exact (pm.append_right _).mem_iff
    have hm2 : hide (owned (vs.map some) ins ++ ((fm.ex (ownAs a o)).E ++ owned σ ρ0)) H = hide ((ownAs a o ++ owned (vs.map some) ins) ++ (fm.E ++ owned σ ρ0)) H := by
      rw [← hm]; exact congrArg (hide · H) (List.append_assoc ..).symm
    have ma : a ∈ owned σ ρ := owned_mem r.len hi (by
      rw [List.getD_eq_getElem?_getD, hv, ho]; exact mem_ownAs a o)
    refine ⟨.own o :: ins, ρ0, q0, ⟨by rw [e]; exact t.rs.permE pm, fun j => ?_, ?_, fun j => ?_, congrArg Nat.succ t.len, ?_, ?_, fun n p hp => ?_, fun out ρ' k' q => ?_⟩, fun j hj => n1 j ?_, fun j hj => ?_, fun j hj => n3 j ?_⟩
    · rw [e, ← hm2]
      cases j with
      | zero =>
        refine slotOk_up (x := some (.ref a)) (s := .own o) (fun b u z => ?_) oa
        rw [hm2, ← hm]
        refine t.mo b u ?_
        rw [← List.append_assoc] at z
        exact z
      | succ j => exact t.sl j
    · rw [e]; exact Flat.cons no oa t.flat
    · cases j with
      | zero => cases o with
        | ins C dx ns ds => exact no.elim
        | _ => trivial
      | succ j => exact t.noi j
    · rw [e]
      intro b u z
      have := t.mo b u (m1 b u z)
      rw [hm] at this
      rw [show (fm.ex (ownAs a o ++ owned (vs.map some) ins)).hid σ ρ0 H = hide ((ownAs a o ++ owned (vs.map some) ins) ++ (fm.E ++ owned σ ρ0)) H from congrArg (hide · H) (List.append_assoc ..)]
      exact this
    · rw [e]
      intro b z
      rw [List.append_assoc] at z
      rcases List.mem_append.mp z with z | z
      · rw [eo] at z; rw [List.mem_singleton.mp z]; exact ma
      · have := t.sub b z
        -- the slot is empty
        have P := owned_put_perm (some (.ref a)) .no σ ρ i (List.getElem?_eq_some_iff.mp hv).1 hi
        rw [set_self hv, slotAs_no] at P
        exact (owned_none_sub σ ρ i).subset (P.mem_iff.mp this)
    · rcases List.mem_cons.mp hp with rfl | hp
      · exact ⟨0, rfl, rfl⟩
      · obtain ⟨j, e1, e2⟩ := t.fx (n + 1) p hp
        exact ⟨j + 1, by omega, e2⟩
    · rw [e]
      cases out with
      | nil => exact q.elim
      | cons s out =>
        cases s with
        | no => exact q.elim
        | v d' => exact q.elim
        | own o' =>
          cases o' with
          | ins C dx ns ds => exact q.elim
          | _ =>
            obtain ⟨b1, b2⟩ := t.back out _ k' q
            refine ⟨?_, fun j => by cases j with
              | zero => trivial
              | succ j => exact b2 j⟩
            show [a] ++ owned (vs.map some) out = _
            rw [b1, eo]
    · rw [Env.at_put _ ρ i j hi]; by_cases z : j = i
      · rw [if_pos z]; trivial
      · rw [if_neg z]; exact hj
    · rcases List.mem_cons.mp hj with hj | hj
      · cases hj
        have l0 : ρ0.length = ρ.length := by rw [← t.rs.len, ← r.len]
        exact ⟨n3 i (by rw [Env.at_put _ ρ i i hi, if_pos rfl]), by rw [l0]; exact hi⟩
      · exact n2 j hj
    · rw [Env.at_put _ ρ i j hi]; by_cases z : j = i
      · rw [if_pos z]
      · rw [if_neg z]; exact hj
  | [], _ :: _, _, _, _, _, h, _ => h.elim
  | _ :: _, [], _, _, _, _, h, _ => h.elim
theorem put_len_lt {ρ : Env} {i j : Nat} {s : Sl} (h : i < ρ.length) : i < (Env.put ρ j s).length := by rw [Env.put_len]; exact h
theorem put_all {K : PySem.W.Frag} {Hm H : Hp} {σ : St} : ∀ {vs : List V} {as : List Ar} {out : List Sl} {fm : Fm} {ρ : Env} {k : Env → Prop}, RS K (fm.ex (owned (vs.map some) out)) H σ ρ → ArOk K Hm σ vs as →
    (∀ j, SlotOk K (hide (owned (vs.map some) out ++ (fm.E ++ owned σ ρ)) H) H ((vs.map some).getD j none) (Env.at out j)) → (∀ i, Ar.o i ∈ as → noIns (Env.at ρ i) ∧ i < ρ.length) → backA as out ρ k →
    ∃ ρ', k ρ' ∧ RS K fm H σ ρ' ∧ ∀ a, a ∈ owned σ ρ' → a ∈ owned (vs.map some) out ++ owned σ ρ
  | [], [], out, fm, ρ, k, r, h, sl, n, q => by
    cases out with
    | nil => exact ⟨ρ, q, r, fun a z => z⟩
    | cons _ _ => exact q.elim
  | v :: vs, .v d :: as, out, fm, ρ, k, r, h, sl, n, q => by
    cases out with
    | nil => exact q.elim
    | cons s out =>
      have ns : slotAs (some v) s = [] := by cases s with
        | no => exact slotAs_no _
        | v d => exact slotAs_v _ d
        | own o => exact q.elim
      have e : owned ((v :: vs).map some) (s :: out) = owned (vs.map some) out := by
        show slotAs (some v) s ++ owned (vs.map some) out = _
        rw [ns]; rfl
      rw [e] at r sl ⊢
      have q' : backA as out ρ k := by cases s with
        | own o => exact q.elim
        | no => exact q
        | v d => exact q
      exact put_all r h.2 (fun j => sl (j + 1)) (fun i hi => n i (List.mem_cons_of_mem _ hi)) q'
  | v :: vs, .o i :: as, out, fm, ρ, k, r, h, sl, n, q => by
    cases out with
    | nil => exact q.elim
    | cons s out =>
      cases s with
      | no => exact q.elim
      | v d => exact q.elim
      | own o =>
        have no : noInsO o := by cases o with
          | ins C dx ns ds => exact q.elim
          | _ => trivial
        have q' : backA as out (Env.put ρ i (.own o)) k := by cases o with
          | ins C dx ns ds => exact q.elim
          | _ => exact q
        have s0 := sl 0
        have hv := h.1
        have evr : ∃ a, v = .ref a := by
          have s0' : SlotOk K (hide (owned ((v :: vs).map some) (.own o :: out) ++ (fm.E ++ owned σ ρ)) H) H (some v) (.own o) := s0
          cases v with
          | ref a => exact ⟨a, rfl⟩
          | _ => exact s0'.elim
        obtain ⟨a, rfl⟩ := evr
        have oa : OwnAt K (hide (owned ((V.ref a :: vs).map some) (.own o :: out) ++ (fm.E ++ owned σ ρ)) H) H a o := s0
        have e : owned ((V.ref a :: vs).map some) (.own o :: out) = ownAs a o ++ owned (vs.map some) out := rfl
        rw [e] at r oa
        have eo := ownAs_eq (a := a) no
        obtain ⟨ni, hi⟩ := n i List.mem_cons_self
        have fl := flat_own no oa
        have hm : ((fm.ex (owned (vs.map some) out)).ex (slotAs (some (.ref a)) (.own o))).hid σ ρ H = hide ((ownAs a o ++ owned (vs.map some) out) ++ (fm.E ++ owned σ ρ)) H := by
          show hide ((ownAs a o ++ (owned (vs.map some) out ++ fm.E)) ++ owned σ ρ) H = _
          rw [← List.append_assoc (as := ownAs a o), List.append_assoc (bs := fm.E)]
        have r' : RS K ((fm.ex (owned (vs.map some) out)).ex (slotAs (some (.ref a)) (.own o))) H σ ρ := by
          have : ((fm.ex (owned (vs.map some) out)).ex (slotAs (some (.ref a)) (.own o))) = fm.ex (ownAs a o ++ owned (vs.map some) out) := by
            show Fm.mk _ _ _ = Fm.mk _ _ _
            congr 1
            exact (List.append_assoc ..).symm
          rw [this]; exact r
        have rp := RS.put_core (i := i) (x := some (.ref a)) (s := .own o) r' hi (by rw [set_self hv]; exact r.fx) ni (fun b hb C dx fs z => (fl b hb).1 C dx fs z) (by rw [hm]; exact oa)
        rw [set_self hv] at rp
        have P := owned_put_perm (some (.ref a)) (.own o) σ ρ i (List.getElem?_eq_some_iff.mp hv).1 hi
        rw [set_self hv] at P
        have sub1 : ∀ b, b ∈ owned σ (Env.put ρ i (.own o)) → b ∈ ownAs a o ++ owned σ ρ := fun b z =>
          (List.mem_append.mp (P.mem_iff.mp z)).elim (fun z => List.mem_append_left _ z) fun z => List.mem_append_right _ ((owned_none_sub σ ρ i).subset z)
        have up : ∀ b u, hide ((ownAs a o ++ owned (vs.map some) out) ++ (fm.E ++ owned σ ρ)) H b = some u → hide (owned (vs.map some) out ++ (fm.E ++ owned σ (Env.put ρ i (.own o)))) H b = some u := fun b u z => by
          obtain ⟨m, z⟩ := hide_some z
          refine (hide_out fun w => m ?_).trans z
          simp only [List.mem_append] at w ⊢
          rcases w with w | w | w
          · exact .inl (.inr w)
          · exact .inr (.inl w)
          · rcases List.mem_append.mp (sub1 b w) with w | w
            · exact .inl (.inl w)
            · exact .inr (.inr w)
        have nn : ∀ j, Ar.o j ∈ as → noIns (Env.at (Env.put ρ i (.own o)) j) ∧ j < (Env.put ρ i (.own o)).length := fun j hj => by
          obtain ⟨n1, n2⟩ := n j (List.mem_cons_of_mem _ hj)
          refine ⟨?_, put_len_lt n2⟩
          rw [Env.at_put _ ρ i j hi]
          by_cases z : j = i
          · rw [if_pos z]; cases o with
            | ins C dx ns ds => exact no.elim
            | _ => trivial
          · rw [if_neg z]; exact n1
        obtain ⟨ρ', k', r2, s2⟩ := put_all rp h.2 (fun j => slotOk_up up (by have := sl (j + 1); rw [e] at this; exact this)) nn q'
        refine ⟨ρ', k', r2, fun b z => ?_⟩
        rw [e]
        have := s2 b z
        simp only [List.mem_append] at this ⊢
        rcases this with w | w
        · exact .inl (.inr w)
        · rcases List.mem_append.mp (sub1 b w) with w | w
          · exact .inl (.inl w)
          · exact .inr w
  | [], _ :: _, _, _, _, _, _, h, _, _, _ => h.elim
  | _ :: _, [], _, _, _, _, _, h, _, _, _ => h.elim

/-- the heap that a callee sees -/
theorem entryR {K : PySem.W.Frag} {fm : Fm} {H : Hp} {σ : St} {ρ ρ0 : Env} {vs : List V} {as : List Ar} {ins : List Sl} (t : Tkn K fm H σ ρ vs as ins ρ0) :
    RS K (entryFm (hide (fm.E ++ owned σ ρ0) H) vs ins) (hide (fm.E ++ owned σ ρ0) H) (vs.map some) ins := by
  have nd : (owned (vs.map some) ins ++ (fm.E ++ owned σ ρ0)).Nodup := by have := t.rs.nd; rw [List.append_assoc] at this; exact this
  have hh : hide (owned (vs.map some) ins) (hide (fm.E ++ owned σ ρ0) H) = hide (owned (vs.map some) ins ++ (fm.E ++ owned σ ρ0)) H := funext fun b => by
    by_cases z : b ∈ owned (vs.map some) ins
    · rw [hide_in z, hide_in (List.mem_append_left _ z)]
    · rw [hide_out z]
      by_cases w : b ∈ fm.E ++ owned σ ρ0
      · rw [hide_in w, hide_in (List.mem_append_right _ w)]
      · rw [hide_out w, hide_out fun u => (List.mem_append.mp u).elim z w]
  have nA : ∀ a ∈ owned (vs.map some) ins, a ∉ fm.E ++ owned σ ρ0 := fun a h z => (List.nodup_append.mp nd).2.2 a h a z rfl
  have mem : ∀ a, a ∈ (fm.ex (owned (vs.map some) ins)).E ++ owned σ ρ0 ↔ (a ∈ owned (vs.map some) ins ∨ a ∈ fm.E ++ owned σ ρ0) := fun a => by
    rw [show (fm.ex (owned (vs.map some) ins)).E ++ owned σ ρ0 = owned (vs.map some) ins ++ (fm.E ++ owned σ ρ0) from List.append_assoc .., List.mem_append]
  have noB : ∀ b C dx fs, H b = some (.ins C dx fs) → b ∉ owned (vs.map some) ins ∧ dx ∉ owned (vs.map some) ins := fun b C dx fs h =>
    ⟨fun z => (t.flat b z).1 C dx fs h, fun z => (t.flat dx z).2 b (t.rs.ins b C dx fs h)⟩
  refine ⟨by rw [List.length_map]; exact t.len, fun j => ?_, (List.nodup_append.mp nd).1, fun a ha => ?_, fun b C dx fs h => ?_, fun b C dx fs h => ?_, fun c b hc h => ?_, hid_le, fun p hp => ?_⟩
  · show SlotOk K (hide (owned (vs.map some) ins) (hide (fm.E ++ owned σ ρ0) H)) (hide (fm.E ++ owned σ ρ0) H) _ _
    rw [hh]
    have s := t.sl j
    have n := t.noi j
    have m : ∀ a, a ∈ slotAs ((vs.map some).getD j none) (Env.at ins j) → hide (fm.E ++ owned σ ρ0) H a = H a := fun a ha => hide_out (nA a (mem_owned.mpr ⟨j, ha⟩))
    revert s n m
    cases (vs.map some).getD j none with
    | none => cases Env.at ins j <;> exact fun h _ _ => h
    | some v =>
      cases Env.at ins j with
      | no => exact fun h _ _ => h
      | v d => exact fun h _ _ => h
      | own o =>
        cases v with
        | ref a =>
          intro s n m
          have m2 : hide (fm.E ++ owned σ ρ0) H a = H a := m a (mem_ownAs a o)
          cases o with
          | lst ds => obtain ⟨us, h1, h2⟩ := s; exact ⟨us, m2.trans h1, h2⟩
          | dic ks ds => obtain ⟨us, h1, h2, h3⟩ := s; exact ⟨us, m2.trans h1, h2, h3⟩
          | ins C dx ns ds => exact n.elim
        | _ => exact fun h _ _ => h
  · obtain ⟨⟨o, h1, h2⟩, _⟩ := t.rs.tr a ((mem a).mpr (.inl ha))
    exact ⟨⟨o, (hide_out (nA a ha)).trans h1, h2⟩, hide_in ha⟩
  · obtain ⟨nb, h⟩ := hide_some h
    obtain ⟨n1, n2⟩ := noB b C dx fs h
    have hd := t.rs.ins b C dx fs h
    exact (hide_out fun z => ((mem b).mp ((t.rs.cl b C dx fs h).mp ((mem dx).mpr (.inr z)))).elim n1 nb).trans hd
  · obtain ⟨nb, h⟩ := hide_some h
    obtain ⟨n1, n2⟩ := noB b C dx fs h
    exact ⟨fun z => (n2 z).elim, fun z => (n1 z).elim⟩
  · obtain ⟨_, h⟩ := hide_some h
    exact ((t.flat c hc).2 b h).elim
  · obtain ⟨j, e1, e2⟩ := t.fx 0 p hp
    rw [e1, Nat.zero_add]; exact e2
end DL

set_option Elab.async false
set_option linter.all false
set_option maxRecDepth 100000
namespace DL
open PySem L2

theorem flat_all {K : PySem.W.Frag} {Hm H : Hp} {σ : St} {ρ : Env} (sl : ∀ j, SlotOk K Hm H (σ.getD j none) (Env.at ρ j)) (n : ∀ j, noIns (Env.at ρ j)) : Flat (owned σ ρ) H := fun a ha => by
  obtain ⟨j, ha⟩ := mem_owned.mp ha
  have s := sl j
  have n := n j
  revert s n ha
  cases σ.getD j none with
  | none => cases Env.at ρ j <;> simp [slotAs]
  | some v =>
    cases v with
    | ref p =>
      cases Env.at ρ j with
      | no => simp [slotAs]
      | v d => simp [slotAs]
      | own o =>
        intro ha s n
        exact flat_own (by cases o <;> first | exact n | trivial) s a ha
    | _ => cases Env.at ρ j <;> simp [slotAs]
/-- the heap behind a call, seen by the caller: its objects are still out of their slots; P is what is new -/
structure Aft (K : PySem.W.Frag) (fm : Fm) (H : Hp) (σ : St) (ρ0 : Env) (vs : List V) (ins out : List Sl) (P : List Addr) (H' : Hp) : Prop where
  rs : RS K ((fm.ex P).ex (owned (vs.map some) ins)) (over (fm.E ++ owned σ ρ0) H H') σ ρ0
  sl : ∀ j, SlotOk K (hide (owned (vs.map some) ins ++ ((fm.ex P).E ++ owned σ ρ0)) (over (fm.E ++ owned σ ρ0) H H')) (over (fm.E ++ owned σ ρ0) H H') ((vs.map some).getD j none) (Env.at out j)
  vis : Mo H' (over (fm.E ++ owned σ ρ0) H H')
  fr : ∀ b o, H b = some o → b ∉ owned (vs.map some) ins → over (fm.E ++ owned σ ρ0) H H' b = some o
  hid : ∀ b o, H' b = some o → b ∉ P → b ∉ owned (vs.map some) ins → hide (owned (vs.map some) ins ++ ((fm.ex P).E ++ owned σ ρ0)) (over (fm.E ++ owned σ ρ0) H H') b = some o
  new : ∀ p ∈ P, H p = none
theorem after {K : PySem.W.Frag} {fm : Fm} {H H' : Hp} {σ : St} {ρ ρ0 : Env} {vs : List V} {as : List Ar} {ins out : List Sl} {P : List Addr} (t : Tkn K fm H σ ρ vs as ins ρ0) (eB : owned (vs.map some) out = owned (vs.map some) ins) (nB : ∀ j, noIns (Env.at out j))
    (ro : RS K ((entryFm (hide (fm.E ++ owned σ ρ0) H) vs ins).ex P) H' (vs.map some) out) (fP : Flat P H') (no : ∀ a ∈ fm.E ++ owned σ ρ0, H' a = none) : Aft K fm H σ ρ0 vs ins out P H' := by
  have nd0 : (owned (vs.map some) ins ++ (fm.E ++ owned σ ρ0)).Nodup := by have := t.rs.nd; rw [List.append_assoc] at this; exact this
  have hE : ((entryFm (hide (fm.E ++ owned σ ρ0) H) vs ins).ex P).E ++ owned (vs.map some) out = P ++ owned (vs.map some) ins := by
    show (P ++ []) ++ owned (vs.map some) out = _
    rw [List.append_nil, eB]
  have ndP : (P ++ owned (vs.map some) ins).Nodup := by rw [← hE]; exact ro.nd
  have trP : ∀ a, a ∈ P ∨ a ∈ owned (vs.map some) ins → (∃ o, H' a = some o ∧ Ownable o) ∧ hide (owned (vs.map some) ins) (hide (fm.E ++ owned σ ρ0) H) a = none := fun a ha => ro.tr a (by rw [hE]; exact List.mem_append.mpr ha)
  have nA : ∀ a, a ∈ P ∨ a ∈ owned (vs.map some) ins → a ∉ fm.E ++ owned σ ρ0 := fun a ha z => by
    obtain ⟨⟨o, h, _⟩, _⟩ := trP a ha
    rw [no a z] at h; cases h
  have newP : ∀ p ∈ P, H p = none := fun p hp => by
    have h1 := (trP p (.inl hp)).2
    have h2 : p ∉ owned (vs.map some) ins := fun z => (List.nodup_append.mp ndP).2.2 p hp p z rfl
    rw [hide_out h2, hide_out (nA p (.inl hp))] at h1
    exact h1
  have vis : Mo H' (over (fm.E ++ owned σ ρ0) H H') := fun c u q => (over_out fun hc => by rw [no c hc] at q; cases q).trans q
  have gk : ∀ b o, H b = some o → b ∉ owned (vs.map some) ins → b ∉ fm.E ++ owned σ ρ0 → H' b = some o := fun b o q n1 n2 => ro.keep b o (by
    show hide (owned (vs.map some) ins) (hide (fm.E ++ owned σ ρ0) H) b = some o
    rw [hide_out n1, hide_out n2]; exact q)
  have fr : ∀ b o, H b = some o → b ∉ owned (vs.map some) ins → over (fm.E ++ owned σ ρ0) H H' b = some o := fun b o q n1 => by
    by_cases hb : b ∈ fm.E ++ owned σ ρ0
    · rw [over_in hb]; exact q
    · exact vis b o (gk b o q n1 hb)
  have mem : ∀ a, a ∈ ((fm.ex P).ex (owned (vs.map some) ins)).E ++ owned σ ρ0 ↔ (a ∈ owned (vs.map some) ins ∨ a ∈ P ∨ a ∈ fm.E ++ owned σ ρ0) := fun a => by
    show a ∈ (owned (vs.map some) ins ++ (P ++ fm.E)) ++ owned σ ρ0 ↔ _
    simp only [List.mem_append]
    constructor
    · rintro ((h | h | h) | h)
      · exact .inl h
      · exact .inr (.inl h)
      · exact .inr (.inr (.inl h))
      · exact .inr (.inr (.inr h))
    · rintro (h | h | h | h)
      · exact .inl (.inl h)
      · exact .inl (.inr (.inl h))
      · exact .inl (.inr (.inr h))
      · exact .inr h
  have mem0 : ∀ a, a ∈ (fm.ex (owned (vs.map some) ins)).E ++ owned σ ρ0 ↔ (a ∈ owned (vs.map some) ins ∨ a ∈ fm.E ++ owned σ ρ0) := fun a => by
    rw [show (fm.ex (owned (vs.map some) ins)).E ++ owned σ ρ0 = owned (vs.map some) ins ++ (fm.E ++ owned σ ρ0) from List.append_assoc .., List.mem_append]
  have eH : ((fm.ex P).ex (owned (vs.map some) ins)).hid σ ρ0 (over (fm.E ++ owned σ ρ0) H H') = hide (owned (vs.map some) ins ++ ((fm.ex P).E ++ owned σ ρ0)) (over (fm.E ++ owned σ ρ0) H H') := congrArg (hide · _) (List.append_assoc ..)
  have mem2 : ∀ a, a ∈ owned (vs.map some) ins ++ ((fm.ex P).E ++ owned σ ρ0) ↔ (a ∈ owned (vs.map some) ins ∨ a ∈ P ∨ a ∈ fm.E ++ owned σ ρ0) := fun a => by
    rw [← mem, show ((fm.ex P).ex (owned (vs.map some) ins)).E ++ owned σ ρ0 = owned (vs.map some) ins ++ ((fm.ex P).E ++ owned σ ρ0) from List.append_assoc ..]
  have hid : ∀ b o, H' b = some o → b ∉ P → b ∉ owned (vs.map some) ins → hide (owned (vs.map some) ins ++ ((fm.ex P).E ++ owned σ ρ0)) (over (fm.E ++ owned σ ρ0) H H') b = some o := fun b o q n1 n2 =>
    (hide_out fun z => by
      rcases (mem2 b).mp z with z | z | z
      · exact n2 z
      · exact n1 z
      · rw [no b z] at q; cases q).trans (vis b o q)
  have slP : Flat (owned (vs.map some) ins) H' := by rw [← eB]; exact flat_all ro.sl nB
  have fl : ∀ a, a ∈ P ∨ a ∈ owned (vs.map some) ins → (∀ C dx fs, H' a ≠ some (.ins C dx fs)) ∧ ∀ b, H' a ≠ some (.own b) := fun a ha => ha.elim (fP a) (slP a)
  have upO : ∀ b o, hide (owned (vs.map some) ins) (hide (fm.E ++ owned σ ρ0) H) b = some o → True := fun _ _ _ => trivial
  refine ⟨⟨t.rs.len, fun j => ?_, ?_, fun a ha => ?_, fun b C dx fs q => ?_, fun b C dx fs q => ?_, fun c b hc q => ?_, fun b o q => ?_, t.rs.fx⟩, fun j => ?_, vis, fr, hid, newP⟩
  · rw [eH]
    have q := t.rs.sl j
    -- a slot of the caller that is not an argument
    have upv : ∀ b u, (fm.ex (owned (vs.map some) ins)).hid σ ρ0 H b = some u → hide (owned (vs.map some) ins ++ ((fm.ex P).E ++ owned σ ρ0)) (over (fm.E ++ owned σ ρ0) H H') b = some u := fun b u z => by
      obtain ⟨m, z⟩ := hide_some z
      rw [mem0, not_or] at m
      refine (hide_out fun w => ?_).trans (fr b u z m.1)
      rcases (mem2 b).mp w with w | w | w
      · exact m.1 w
      · rw [newP b w] at z; cases z
      · exact m.2 w
    have own0 : ∀ a, a ∈ slotAs (σ.getD j none) (Env.at ρ0 j) → a ∈ fm.E ++ owned σ ρ0 := fun a ha => List.mem_append_right _ (mem_owned.mpr ⟨j, ha⟩)
    revert q own0
    cases σ.getD j none with
    | none => cases Env.at ρ0 j <;> exact fun q _ => q
    | some v =>
      cases Env.at ρ0 j with
      | no => exact fun q _ => q
      | v d => exact fun q _ => Rep.mono upv q
      | own od =>
        cases v with
        | ref a =>
          intro q own0
          cases od with
          | lst ds => obtain ⟨us, h1, h2⟩ := q; exact ⟨us, (over_in (own0 a (by simp [slotAs, ownAs]))).trans h1, h2.mono upv⟩
          | dic ks ds => obtain ⟨us, h1, h2, h3⟩ := q; exact ⟨us, (over_in (own0 a (by simp [slotAs, ownAs]))).trans h1, h2, h3.mono upv⟩
          | ins C dx ns ds => obtain ⟨us, h1, h2, h3, h4⟩ := q; exact ⟨us, (over_in (own0 a (by simp [slotAs, ownAs]))).trans h1, h2, h3.mono upv, (over_in (own0 dx (by simp [slotAs, ownAs]))).trans h4⟩
        | _ => exact fun q _ => q
  · rw [show ((fm.ex P).ex (owned (vs.map some) ins)).E ++ owned σ ρ0 = owned (vs.map some) ins ++ (P ++ (fm.E ++ owned σ ρ0)) from by
      show (owned (vs.map some) ins ++ (P ++ fm.E)) ++ owned σ ρ0 = _
      simp only [List.append_assoc]]
    obtain ⟨n1, n2, n3⟩ := List.nodup_append.mp nd0
    obtain ⟨m1, m2, m3⟩ := List.nodup_append.mp ndP
    refine List.nodup_append.mpr ⟨n1, List.nodup_append.mpr ⟨m1, n2, fun a ha b hb e => ?_⟩, fun a ha b hb e => ?_⟩
    · subst e; exact nA a (.inl ha) hb
    · subst e
      rcases List.mem_append.mp hb with hb | hb
      · exact m3 a hb a ha rfl
      · exact n3 a ha a hb rfl
  · rcases (mem a).mp ha with z | z | z
    · obtain ⟨⟨o, h, w⟩, _⟩ := trP a (.inr z)
      exact ⟨⟨o, vis a o h, w⟩, (t.rs.tr a ((mem0 a).mpr (.inl z))).2⟩
    · obtain ⟨⟨o, h, w⟩, _⟩ := trP a (.inl z)
      refine ⟨⟨o, vis a o h, w⟩, ?_⟩
      cases q : fm.G a with
      | none => rfl
      | some o => have := t.rs.keep a o q; rw [newP a z] at this; cases this
    · obtain ⟨⟨o, h, w⟩, g⟩ := t.rs.tr a ((mem0 a).mpr (.inr z))
      exact ⟨⟨o, (over_in z).trans h, w⟩, g⟩
  · by_cases hb : b ∈ fm.E ++ owned σ ρ0
    · rw [over_in hb] at q
      have hd := t.rs.ins b C dx fs q
      exact fr _ _ hd fun z => (t.flat dx z).2 b hd
    · rw [over_out hb] at q; exact vis _ _ (ro.ins b C dx fs q)
  · rw [mem, mem]
    by_cases hb : b ∈ fm.E ++ owned σ ρ0
    · rw [over_in hb] at q
      have c := t.rs.cl b C dx fs q
      rw [mem0, mem0] at c
      refine ⟨fun _ => .inr (.inr hb), fun _ => (c.mpr (.inr hb)).imp id .inr⟩
    · rw [over_out hb] at q
      have hd := ro.ins b C dx fs q
      refine ⟨fun z => ?_, fun z => ?_⟩
      · exfalso
        rcases z with z | z | z
        · exact (fl dx (.inr z)).2 b hd
        · exact (fl dx (.inl z)).2 b hd
        · rw [no dx z] at hd; cases hd
      · exfalso
        rcases z with z | z | z
        · exact (fl b (.inr z)).1 _ _ _ q
        · exact (fl b (.inl z)).1 _ _ _ q
        · exact hb z
  · rcases (mem c).mp hc with z | z | z
    · rw [over_out (nA c (.inr z))] at q; exact ((fl c (.inr z)).2 b q).elim
    · rw [over_out (nA c (.inl z))] at q; exact ((fl c (.inl z)).2 b q).elim
    · rw [over_in z] at q
      obtain ⟨h1, C, fs, h2⟩ := t.rs.co c b ((mem0 c).mpr (.inr z)) q
      have hb : b ∈ fm.E ++ owned σ ρ0 := ((mem0 b).mp h1).resolve_left fun w => (t.flat b w).1 _ _ _ h2
      exact ⟨(mem b).mpr (.inr (.inr hb)), C, fs, (over_in hb).trans h2⟩
  · have h := t.rs.keep b o q
    refine fr b o h fun z => ?_
    have := (t.rs.tr b ((mem0 b).mpr (.inl z))).2
    rw [show (fm.ex (owned (vs.map some) ins)).G = fm.G from rfl, show fm.G b = some o from q] at this
    cases this
  · have s := ro.sl j
    have n := nB j
    refine slotOk_up (Hm := hide ((P ++ []) ++ owned (vs.map some) out) H') (fun b u z => ?_) ?_
    · rw [List.append_nil, eB] at z
      obtain ⟨m, z⟩ := hide_some z
      rw [List.mem_append, not_or] at m
      exact hid b u z m.1 m.2
    · have s' : SlotOk K (hide ((P ++ []) ++ owned (vs.map some) out) H') H' ((vs.map some).getD j none) (Env.at out j) := s
      revert s' n
      cases (vs.map some).getD j none with
      | none => cases Env.at out j <;> exact fun _ q => q
      | some v =>
        cases Env.at out j with
        | no => exact fun _ q => q
        | v d => exact fun _ q => q
        | own od =>
          cases v with
          | ref a =>
            intro n q
            cases od with
            | lst ds => obtain ⟨us, h1, h2⟩ := q; exact ⟨us, vis _ _ h1, h2⟩
            | dic ks ds => obtain ⟨us, h1, h2, h3⟩ := q; exact ⟨us, vis _ _ h1, h2, h3⟩
            | ins C dx ns ds => exact n.elim
          | _ => exact fun _ q => q
end DL

set_option Elab.async false
set_option linter.all false
set_option maxRecDepth 100000
namespace DL
open PySem L2

abbrev WAr := Env → (List Ar → Env → Prop) → KR → Prop
def LAr (K : PySem.W.Frag) (W : WW) (t : TA) (w : WAr) : Prop :=
  ∀ (fm : Fm) (H : Hp) (σ : St) (ρ : Env) (Q : List Ar → Env → Prop) (R : KR) (QV : List V → Hp → Prop), RS K fm H σ ρ → w ρ Q R → XOk K W fm σ H ρ R →
    (∀ vs H' as ρ', Q as ρ' → To K fm σ H ρ H' ρ' → ArOk K (fm.hid σ ρ' H') σ vs as → QV vs H') → t σ H QV
structure DR (X : Cx) (W : WW) (es : List Expr) (w : WAr) : Prop where
  ex : ∃ t, PA X es t ∧ LAr X.K W t w
def wrNil : WAr := fun ρ Q _ => Q [] ρ
def wrV (a : WE) (r : WAr) : WAr := fun ρ Q R => a ρ (fun d ρ1 => r ρ1 (fun as ρ2 => Q (.v d :: as) ρ2) R) R
def isOwn : Sl → Prop
  | .own _ => True
  | _ => False
def wrO (i : Nat) (r : WAr) : WAr := fun ρ Q R => isOwn (Env.at ρ i) ∧ r ρ (fun as ρ2 => Q (.o i :: as) ρ2) R
section
variable {X : Cx} {W : WW} {K : PySem.W.Frag}
theorem dr_nil : DR X W [] wrNil := ⟨_, pa_nil, fun fm H σ ρ Q R QV s q x k => k [] H [] ρ q (.refl s) trivial⟩
theorem dr_v {e : Expr} {es : List Expr} {a : WE} {r : WAr} (ha : DE X W e a) (hr : DR X W es r) (hs : starEach (e :: es) X.env = (false, eval e X.env) :: starEach es X.env := by rfl) : DR X W (e :: es) (wrV a r) := by
  obtain ⟨ta, pa, la⟩ := ha.ex
  obtain ⟨tr, pr, lr⟩ := hr.ex
  exact ⟨_, pa_cons pa pr hs, fun fm H σ ρ Q R QV s q x k => la fm H σ ρ _ R _ s q x fun v H1 d ρ1 q1 g1 r1 =>
    lr fm H1 σ ρ1 _ R _ g1.rs q1 (x.to g1) fun vs H2 as ρ2 q2 g2 r2 => k (v :: vs) H2 (.v d :: as) ρ2 q2 (g1.trans g2) ⟨g2.go.rep r1, r2⟩⟩
theorem isOwn_ex : ∀ {s : Sl}, isOwn s → ∃ o, s = .own o
  | .own o, _ => ⟨o, rfl⟩
  | .no, h => h.elim
  | .v _, h => h.elim
theorem dr_o {e : Expr} {es : List Expr} {i : Nat} {r : WAr} (ha : PE X e (tVar i)) (hr : DR X W es r) (hs : starEach (e :: es) X.env = (false, eval e X.env) :: starEach es X.env := by rfl) : DR X W (e :: es) (wrO i r) := by
  obtain ⟨tr, pr, lr⟩ := hr.ex
  refine ⟨_, pa_cons ha pr hs, fun fm H σ ρ Q R QV s q x k => ?_⟩
  obtain ⟨io, q⟩ := q
  obtain ⟨o, ho⟩ := isOwn_ex io
  obtain ⟨a, hv⟩ := s.own_at ho
  exact ⟨.ref a, hv, lr fm H σ ρ _ R _ s q x fun vs H2 as ρ2 q2 g2 r2 => k (.ref a :: vs) H2 (.o i :: as) ρ2 q2 g2 ⟨hv, r2⟩⟩
end

def wCallR (sp : SpD) (a : WAr) : WE := fun ρ Q R => a ρ (fun as ρ1 => takeA as ρ1 fun ins ρ0 => sp ins (fun r out => backA as out ρ0 fun ρ' => r.asD fun d => Q d ρ') fun x out => backA as out ρ0 fun ρ' => R x ρ') R
def wCallRO (sp : SpD) (a : WAr) : WO := fun ρ Q R => a ρ (fun as ρ1 => takeA as ρ1 fun ins ρ0 => sp ins (fun r out => backA as out ρ0 fun ρ' => r.asO fun o => Q o ρ') fun x out => backA as out ρ0 fun ρ' => R x ρ') R
section
variable {K : PySem.W.Frag}
theorem Tkn.hidOk {fm : Fm} {H : Hp} {σ : St} {ρ ρ0 : Env} {vs : List V} {as : List Ar} {ins : List Sl} (t : Tkn K fm H σ ρ vs as ins ρ0) : HidOk (fm.E ++ owned σ ρ0) H := by
  have mem0 : ∀ a, a ∈ (fm.ex (owned (vs.map some) ins)).E ++ owned σ ρ0 ↔ (a ∈ owned (vs.map some) ins ∨ a ∈ fm.E ++ owned σ ρ0) := fun a => by
    rw [show (fm.ex (owned (vs.map some) ins)).E ++ owned σ ρ0 = owned (vs.map some) ins ++ (fm.E ++ owned σ ρ0) from List.append_assoc .., List.mem_append]
  refine ⟨fun a ha => (t.rs.tr a ((mem0 a).mpr (.inr ha))).1, fun b C dx fs hb h => ?_, fun c b hc h => ?_⟩
  · exact ((mem0 dx).mp ((t.rs.cl b C dx fs h).mpr ((mem0 b).mpr (.inr hb)))).resolve_left fun z => (t.flat dx z).2 b (t.rs.ins b C dx fs h)
  · obtain ⟨h1, C, fs, h2⟩ := t.rs.co c b ((mem0 c).mpr (.inr hc)) h
    exact ((mem0 b).mp h1).resolve_left fun z => (t.flat b z).1 _ _ _ h2
/-- the arguments' objects are back in their slots -/
theorem Aft.fin {fm : Fm} {H H' : Hp} {σ : St} {ρ ρ0 : Env} {vs : List V} {as : List Ar} {ins out : List Sl} {P : List Addr} {k : Env → Prop} (t : Tkn K fm H σ ρ vs as ins ρ0) (ok : ArOk K (fm.hid σ ρ H) σ vs as) (e0 : ∀ i, Ar.o i ∈ as → Env.at ρ0 i = .no ∧ i < ρ0.length) (a : Aft K fm H σ ρ0 vs ins out P H') (q : backA as out ρ0 k) :
    ∃ ρ', k ρ' ∧ RS K (fm.ex P) (over (fm.E ++ owned σ ρ0) H H') σ ρ' ∧ Go σ H ρ (over (fm.E ++ owned σ ρ0) H H') ρ' ∧ Mo (fm.hid σ ρ H) ((fm.ex P).hid σ ρ' (over (fm.E ++ owned σ ρ0) H H')) ∧
      ∀ b o, H' b = some o → b ∉ P → b ∉ owned (vs.map some) ins → (fm.ex P).hid σ ρ' (over (fm.E ++ owned σ ρ0) H H') b = some o := by
  obtain ⟨eB, nB⟩ := t.back out ρ0 k q
  obtain ⟨ρ', k', r, s⟩ := put_all (K := K) (Hm := fm.hid σ ρ H) (vs := vs) (out := out) (fm := fm.ex P) (by rw [eB]; exact a.rs) ok (by rw [eB]; exact a.sl) (fun i hi => ⟨by rw [(e0 i hi).1]; trivial, (e0 i hi).2⟩) q
  rw [eB] at s
  have sub : ∀ b, b ∈ owned σ ρ' → b ∈ owned σ ρ := fun b z => t.sub b (s b z)
  have Bρ : ∀ b, b ∈ owned (vs.map some) ins → b ∈ owned σ ρ := fun b z => t.sub b (List.mem_append_left _ z)
  refine ⟨ρ', k', r, ⟨fun b o h n => a.fr b o h fun z => n (Bρ b z), sub⟩, fun b o h => ?_, fun b o h n1 n2 => ?_⟩
  · obtain ⟨m, h⟩ := hide_some h
    rw [List.mem_append, not_or] at m
    refine (hide_out fun z => ?_).trans (a.fr b o h fun z => m.2 (Bρ b z))
    rcases List.mem_append.mp z with z | z
    · rcases List.mem_append.mp z with z | z
      · rw [a.new b z] at h; cases h
      · exact m.1 z
    · exact m.2 (sub b z)
  · have := a.hid b o h n1 n2
    obtain ⟨m, h⟩ := hide_some this
    refine (hide_out fun z => m ?_).trans h
    rcases List.mem_append.mp z with z | z
    · exact List.mem_append_right _ (List.mem_append_left _ z)
    · rcases List.mem_append.mp (s b z) with z | z
      · exact List.mem_append_left _ z
      · exact List.mem_append_right _ (List.mem_append_right _ z)
theorem hid_inj {A : List Addr} {H : Hp} {b : Addr} {o : HO} (h : hide A H b = some o) : b ∉ A := (hide_some h).1
theorem call_end {W : WW} {fm : Fm} {H : Hp} {σ : St} {ρ ρ0 : Env} {vs : List V} {as : List Ar} {ins : List Sl} {QV : VK} {R : KR} (t : Tkn K fm H σ ρ vs as ins ρ0) (ok : ArOk K (fm.hid σ ρ H) σ vs as) (e0 : ∀ i, Ar.o i ∈ as → Env.at ρ0 i = .no ∧ i < ρ0.length)
    {k1 : D → Env → Prop} {k2 : OD → Env → Prop} (f : Sl → (Env → Prop)) (hf : ∀ r ρ', f r ρ' → (match r with | .v d => k1 d ρ' | .own o => noInsO o ∧ k2 o ρ' | .no => False))
    (h1 : ∀ v H' d ρ', k1 d ρ' → To K fm σ H ρ H' ρ' → Rep K (fm.hid σ ρ' H') v d → QV v H') (h2 : ∀ p H' o ρ', k2 o ρ' → NewO K fm σ H ρ H' ρ' p o → QV (.ref p) H')
    (r : Sl) (out : List Sl) (q : backA as out ρ0 (f r)) (v : V) (H' : Hp) (ro : RS K (entryFm (hide (fm.E ++ owned σ ρ0) H) vs ins) H' (vs.map some) out) (rt : RetOk K (entryFm (hide (fm.E ++ owned σ ρ0) H) vs ins) (vs.map some) out H' v r) (no : ∀ a ∈ fm.E ++ owned σ ρ0, H' a = none) :
    QV v (over (fm.E ++ owned σ ρ0) H H') := by
  obtain ⟨eB, nB⟩ := t.back out ρ0 _ q
  cases r with
  | no => exact rt.elim
  | v d =>
    obtain ⟨ρ', k', rs, go, mo, hid⟩ := Aft.fin t ok e0 (after (P := []) t eB nB ro (Flat.nil H') no) q
    refine h1 v _ d ρ' (hf _ _ k') ⟨rs, go⟩ (Rep.mono (fun b o z => ?_) rt)
    obtain ⟨m, z⟩ := hide_some z
    refine hid b o z (fun w => nomatch w) fun w => m ?_
    show b ∈ [] ++ owned (vs.map some) out
    rw [eB]; exact w
  | own o =>
    obtain ⟨p, rfl, r2, oa⟩ := rt
    have bad : ¬ noInsO o → False := fun n => by
      obtain ⟨ρ', k', _⟩ := Aft.fin t ok e0 (after (P := []) t eB nB ro (Flat.nil H') no) q
      exact n (hf _ _ k').1
    have ni : noInsO o := Classical.byContradiction bad
    have af := after (P := ownAs p o) t eB nB r2 (flat_own ni oa) no
    obtain ⟨ρ', k', rs, go, mo, hid⟩ := Aft.fin t ok e0 af q
    have hm : ∀ b u, hide (ownAs p o ++ ((entryFm (hide (fm.E ++ owned σ ρ0) H) vs ins).E ++ owned (vs.map some) out)) H' b = some u → hide (ownAs p o ++ (fm.E ++ owned σ ρ')) (over (fm.E ++ owned σ ρ0) H H') b = some u := fun b u z => by
      obtain ⟨m, z⟩ := hide_some z
      have := hid b u z (fun w => m (List.mem_append_left _ w)) fun w => m (List.mem_append_right _ (by show b ∈ [] ++ owned (vs.map some) out; rw [eB]; exact w))
      rw [show (fm.ex (ownAs p o)).hid σ ρ' (over (fm.E ++ owned σ ρ0) H H') = hide (ownAs p o ++ (fm.E ++ owned σ ρ')) (over (fm.E ++ owned σ ρ0) H H') from congrArg (hide · _) (List.append_assoc ..)] at this
      exact this
    have oa2 : OwnAt K (hide (ownAs p o ++ (fm.E ++ owned σ ρ')) (over (fm.E ++ owned σ ρ0) H H')) (over (fm.E ++ owned σ ρ0) H H') p o := by
      cases o with
      | lst ds => obtain ⟨us, h1, h2⟩ := oa; exact ⟨us, af.vis _ _ h1, h2.mono hm⟩
      | dic ks ds => obtain ⟨us, h1, h2, h3⟩ := oa; exact ⟨us, af.vis _ _ h1, h2, h3.mono hm⟩
      | ins C dx ns ds => exact ni.elim
    exact h2 p _ o ρ' (hf _ _ k').2 ⟨⟨rs.ex_weak ni (OwnAt.kind ni oa2), go⟩, rs, mo, oa2⟩
theorem call_exc {W : WW} {fm : Fm} {H : Hp} {σ : St} {ρ ρ0 : Env} {vs : List V} {as : List Ar} {ins : List Sl} {R : KR} (t : Tkn K fm H σ ρ vs as ins ρ0) (ok : ArOk K (fm.hid σ ρ H) σ vs as) (e0 : ∀ i, Ar.o i ∈ as → Env.at ρ0 i = .no ∧ i < ρ0.length) (x : XOk K W fm σ H ρ R)
    (ex : Exn) (out : List Sl) (q : backA as out ρ0 fun ρ' => R ex ρ') (cls : Value) (dd : Option Addr) (H' : Hp) (ro : RS K (entryFm (hide (fm.E ++ owned σ ρ0) H) vs ins) H' (vs.map some) out)
    (er : ExR K ((entryFm (hide (fm.E ++ owned σ ρ0) H) vs ins).hid (vs.map some) out H') H' cls dd ex) (no : ∀ a ∈ fm.E ++ owned σ ρ0, H' a = none) : W.x cls dd σ (over (fm.E ++ owned σ ρ0) H H') := by
  obtain ⟨eB, nB⟩ := t.back out ρ0 _ q
  have af := after (P := []) t eB nB ro (Flat.nil H') no
  obtain ⟨ρ', k', rs, go, mo, hid⟩ := Aft.fin t ok e0 af q
  refine x.ok ex ρ' _ cls dd k' ⟨rs, go⟩ (exr_up (fun b o z => ?_) af.vis er)
  obtain ⟨m, z⟩ := hide_some z
  refine hid b o z (fun w => nomatch w) fun w => m ?_
  show b ∈ [] ++ owned (vs.map some) out
  rw [eB]; exact w
theorem le_callR {W : WW} {sp : SpD} {t : TA} {a : WAr} (mo : MonoSp sp) (ha : LAr K W t a) : LE K W (tCallF (spOf K sp) [] W.x t) (wCallR sp a) := fun fm H σ ρ Q R QV s q x k =>
  ha fm H σ ρ _ R _ s q x fun vs H1 as ρ1 q1 g1 r1 => by
    obtain ⟨ins, ρ0, q0, t, n1, n2, n3⟩ := take_all g1.rs r1 q1
    refine ⟨fm.E ++ owned σ ρ0, t.hidOk, ?_⟩
    rw [List.append_nil]
    refine ⟨ins, entryR t, mo _ _ _ _ _ (fun r out qr => ?_) (fun ex out qr => ?_) q0⟩
    · exact fun v H' ro rt no => call_end (W := W) (R := R) t r1 n2 (k1 := Q) (k2 := fun o ρ' => Q o.toD ρ') (fun r ρ' => r.asD fun d => Q d ρ') (fun r ρ' h => by cases r <;> exact h) (fun v H' d ρ' q' g' rv => k v H' d ρ' q' (g1.trans g') rv)
        (fun p H' o ρ' q' n => k _ H' _ ρ' q' (g1.trans n.to) (own_rep (B := ownAs p o) n.oa (n.rs.notin (mem_ownAs p o)))) r out qr v H' ro rt no
    · exact fun cls dd H' ro er no => call_exc t r1 n2 (x.to g1) ex out qr cls dd H' ro er no
theorem lo_callR {W : WW} {sp : SpD} {t : TA} {a : WAr} (mo : MonoSp sp) (ha : LAr K W t a) : LO K W (tCallF (spOf K sp) [] W.x t) (wCallRO sp a) := fun fm H σ ρ Q R QV s q x k =>
  ha fm H σ ρ _ R _ s q x fun vs H1 as ρ1 q1 g1 r1 => by
    obtain ⟨ins, ρ0, q0, t, n1, n2, n3⟩ := take_all g1.rs r1 q1
    refine ⟨fm.E ++ owned σ ρ0, t.hidOk, ?_⟩
    rw [List.append_nil]
    refine ⟨ins, entryR t, mo _ _ _ _ _ (fun r out qr => ?_) (fun ex out qr => ?_) q0⟩
    · exact fun v H' ro rt no => call_end (W := W) (R := R) t r1 n2 (k1 := fun _ _ => False) (k2 := Q) (fun r ρ' => r.asO fun o => Q o ρ') (fun r ρ' h => by cases r <;> exact h) (fun v H' d ρ' q' g' rv => q'.elim)
        (fun p H' o ρ' q' n => k p H' o ρ' q' (.of g1 n)) r out qr v H' ro rt no
    · exact fun cls dd H' ro er no => call_exc t r1 n2 (x.to g1) ex out qr cls dd H' ro er no
end
section
variable {X : Cx} {W : WW} {f : Addr} {fd : FuncData} {k : Nat} {x : Str} {e : Expr} {es : List Expr} {ps : List Str} {sp : SpD} {a : WAr} {p pos : Pos}
theorem de_callR (F : FnOk X.prog X.w X.K X.mg X.base (L2.CX X.prog X.w) k f fd ps (spOf X.K sp)) (mo : MonoSp sp) (hr : Room k X.A) (hg : Gl X x) (hm : X.mg x = some (.ref f)) (hk : PySem.W.keepIn X.K (.ref f) = true) (hb : Binds X.K fd ps []) (tk : Takes X W.x)
    (ha : DR X W (e :: es) a) (hdb : (x == ("__debug__" : Str)) = false := by decide) (he : starEach (e :: es) X.env = (false, eval e X.env) :: starEach es X.env := by rfl) (hpl : (backTo pos (starEach es X.env)).any (·.1) = false := by rfl) :
    DE X W (.Call (.Name x p) (e :: es) [] pos) (wCallR sp a) := by
  obtain ⟨t, p1, l⟩ := ha.ex
  exact ⟨_, pe_callF F hr hg hm hk hb (.nil) tk p1 hdb he hpl, le_callR mo l⟩
theorem do_callR (F : FnOk X.prog X.w X.K X.mg X.base (L2.CX X.prog X.w) k f fd ps (spOf X.K sp)) (mo : MonoSp sp) (hr : Room k X.A) (hg : Gl X x) (hm : X.mg x = some (.ref f)) (hk : PySem.W.keepIn X.K (.ref f) = true) (hb : Binds X.K fd ps []) (tk : Takes X W.x)
    (ha : DR X W (e :: es) a) (hdb : (x == ("__debug__" : Str)) = false := by decide) (he : starEach (e :: es) X.env = (false, eval e X.env) :: starEach es X.env := by rfl) (hpl : (backTo pos (starEach es X.env)).any (·.1) = false := by rfl) :
    DO X W (.Call (.Name x p) (e :: es) [] pos) (wCallRO sp a) := by
  obtain ⟨t, p1, l⟩ := ha.ex
  exact ⟨_, pe_callF F hr hg hm hk hb (.nil) tk p1 hdb he hpl, lo_callR mo l⟩
end
end DL

set_option Elab.async false
set_option linter.all false
set_option maxRecDepth 100000
namespace DL
open PySem L2

/-! ## methods, own indexing, fields -/
def spK (sp : SpD) (as : List Ar) (ρ : Env) (f : Sl → Env → Prop) (R : KR) : Prop := takeA as ρ fun ins ρ0 => sp ins (fun r out => backA as out ρ0 (f r)) fun x out => backA as out ρ0 fun ρ' => R x ρ'
theorem call_core {K : PySem.W.Frag} {W : WW} {sp : SpD} {fm : Fm} {H : Hp} {σ : St} {ρ : Env} {vs : List V} {as : List Ar} {QV : VK} {R : KR} (mo : MonoSp sp) (s : RS K fm H σ ρ) (ok : ArOk K (fm.hid σ ρ H) σ vs as)
    {k1 : D → Env → Prop} {k2 : OD → Env → Prop} (f : Sl → (Env → Prop)) (hf : ∀ r ρ', f r ρ' → (match r with | .v d => k1 d ρ' | .own o => noInsO o ∧ k2 o ρ' | .no => False))
    (h1 : ∀ v H' d ρ', k1 d ρ' → To K fm σ H ρ H' ρ' → Rep K (fm.hid σ ρ' H') v d → QV v H') (h2 : ∀ p H' o ρ', k2 o ρ' → NewO K fm σ H ρ H' ρ' p o → QV (.ref p) H') (q : spK sp as ρ f R) (x : XOk K W fm σ H ρ R) :
    ∃ A, HidOk A H ∧ spOf K sp vs (hide A H) (fun v H' => (∀ a ∈ A, H' a = none) → QV v (over A H H')) fun cls dd H' => (∀ a ∈ A, H' a = none) → W.x cls dd σ (over A H H') := by
  obtain ⟨ins, ρ0, q0, t, n1, n2, n3⟩ := take_all s ok q
  refine ⟨fm.E ++ owned σ ρ0, t.hidOk, ins, entryR t, mo _ _ _ _ _ (fun r out qr => ?_) (fun ex out qr => ?_) q0⟩
  · exact fun v H' ro rt no => call_end (W := W) (R := R) t ok n2 f hf h1 h2 r out qr v H' ro rt no
  · exact fun cls dd H' ro er no => call_exc t ok n2 x ex out qr cls dd H' ro er no

def tMethF (C : Addr) (m : Str) (sp : Sp) (dvs : List V) (W : WX) (ta : TE) (t : TA) : TE := fun σ H Q => ta σ H fun x H1 => ∃ a dx fs, x = .ref a ∧ H1 a = some (.ins C dx fs) ∧ fs.lookup m = none ∧ t σ H1 fun vs H2 =>
  ∃ A, HidOk A H2 ∧ sp (x :: vs ++ dvs) (hide A H2) (fun v H' => (∀ a ∈ A, H' a = none) → Q v (over A H2 H')) fun cls dd H' => (∀ a ∈ A, H' a = none) → W cls dd σ (over A H2 H')
def tGetF (C : Addr) (sp : Sp) (W : WX) (ta tb : TE) : TE := fun σ H Q => ta σ H fun x H1 => tb σ H1 fun y H2 => (∃ a dx fs, x = .ref a ∧ H2 a = some (.ins C dx fs)) ∧
  ∃ A, HidOk A H2 ∧ sp [x, y] (hide A H2) (fun v H' => (∀ a ∈ A, H' a = none) → Q v (over A H2 H')) fun cls dd H' => (∀ a ∈ A, H' a = none) → W cls dd σ (over A H2 H')
section
variable {X : Cx} {W : WX} {k : Nat} {f C : Addr} {fd : FuncData} {ps : List Str} {sp : Sp} {dvs : List V} {ds : List Value} {x m : Str} {p pos apos : Pos} {e o : Expr} {es : List Expr} {t : TA} {ta tb : TE}
theorem pe_methF {pl : Sem Bool} (he : PE X o ta) (c : Cls X.K C) (hm : Meth X.K C m f) (F : FnOk X.prog X.w X.K X.mg X.base (L2.CX X.prog X.w) k f fd ps sp) (hr : Room k X.A) (hb : Binds X.K fd ps ds) (hd : Vals dvs ds) (tk : Takes X W) (ha : PA X (e :: es) t)
    (hst : starEach (e :: es) X.env = (false, eval e X.env) :: starEach es X.env := by rfl) (hpl : (backTo pos (starEach es X.env)).any (·.1) = false := by rfl)
    (ht : eval (.Call (.Attribute o m apos) (e :: es) [] pos) X.env = (do
      let ov ← eval o X.env
      standAt apos.atName
      let (f, first) ← holding [ov] (getMethod ov m pl)
      callWith pos f first (backTo pos (starEach (e :: es) X.env)) (backToKw pos (keywordEach [] X.env))) := by rfl) :
    PE X (.Call (.Attribute o m apos) (e :: es) [] pos) (tMethF C m sp dvs W ta t) := by
  refine ⟨fun pins s σ H Q I h => ?_⟩
  refine PySem.W.methodCall_KW (pl := pl) (thn (he.run pins s σ H _ I h) fun u s1 ⟨x, H1, I1, rx, a, dx, fs, ex, ea, l, q⟩ => ?_) ht
  subst ex
  obtain rfl : u = Value.ref a := rx
  refine getmeth_ok I1 ea c hm l ?_
  refine PySem.W.callWith_K (first := [.ref a]) (h₀ := X.base) I.ok.mod.kin hm.kp (thn (ha.run pos pins s1 σ H1 _ I1 q) fun us s2 ⟨vs, H2, I2, r, A, ho, q2⟩ => ⟨I2.kIn, ?_⟩) hst hpl
  exact run_frame (us := .ref a :: us) (vs := .ref a :: vs) F hr hb hd tk I2 (.cons rfl r) ho q2
theorem pe_methF0 {pl : Sem Bool} (he : PE X o ta) (c : Cls X.K C) (hm : Meth X.K C m f) (F : FnOk X.prog X.w X.K X.mg X.base (L2.CX X.prog X.w) k f fd ps sp) (hr : Room k X.A) (hb : Binds X.K fd ps ds) (hd : Vals dvs ds) (tk : Takes X W)
    (ht : eval (.Call (.Attribute o m apos) [] [] pos) X.env = (do
      let ov ← eval o X.env
      standAt apos.atName
      let (f, first) ← holding [ov] (getMethod ov m pl)
      callWith pos f first (backTo pos (starEach [] X.env)) (backToKw pos (keywordEach [] X.env))) := by rfl) :
    PE X (.Call (.Attribute o m apos) [] [] pos) (tMethF C m sp dvs W ta tNil) := by
  refine ⟨fun pins s σ H Q I h => ?_⟩
  refine PySem.W.methodCall_KW (pl := pl) (thn (he.run pins s σ H _ I h) fun u s1 ⟨x, H1, I1, rx, a, dx, fs, ex, ea, l, A, ho, q⟩ => ?_) ht
  subst ex
  obtain rfl : u = Value.ref a := rx
  refine getmeth_ok I1 ea c hm l ?_
  exact PySem.W.callWith_K0 (first := [.ref a]) I1.kIn hm.kp (run_frame (us := [.ref a]) (vs := [.ref a]) F hr hb hd tk I1 (.cons rfl .nil) ho q)
/-- x[i] by an own __getitem__ -/
theorem pe_getF {slice : Expr} (he : PE X o ta) (hi : PE X slice tb) (hs : PySem.W.findIn X.K (.ref C) "__getitem__" = some (some (.ref f))) (hf : PySem.W.fnIn X.K f = true) (hfn : PySem.W.isFn X.K (.ref f) = true)
    (F : FnOk X.prog X.w X.K X.mg X.base (L2.CX X.prog X.w) k f fd ps sp) (hr : Room (k + 1) X.A) (hb : Binds X.K fd ps []) (tk : Takes X W)
    (hsl : ∀ x i, subscripted slice true x i = runValue (.builtin "lifetime.subscript" ⟨[x, i], []⟩) := by intros; with_unfolding_all rfl) :
    PE X (.Subscript o slice pos) (tGetF C sp W ta tb) := by
  refine ⟨fun pins s σ H Q I h => ?_⟩
  refine PyProof.Rows.Subscript_ (binT he hi I h fun v u s2 x y H2 I2 rx ry q => ?_)
  obtain ⟨⟨a, dx, fs, rfl, ea⟩, A, ho, q⟩ := q
  obtain rfl : v = Value.ref a := rx
  obtain ⟨mA, J, _⟩ := ins_get I2.hok ea
  obtain ⟨od, J, _⟩ := J.look
  obtain ⟨m, hF⟩ := I2.fr
  refine PySem.W.sub_K hF I2.ok.mod.kin J hs hf hfn ?_ (hsl _ _)
  exact run_frameG (A' := X.A.in1) (us := [.ref a, u]) (vs := [.ref a, y]) F rfl hr.in1 hb .nil tk I2 (.cons rfl (.cons ry .nil)) ho q
end

/-! over data -/
def lookD : List Str → List D → Str → Option D
  | n :: ns, x :: xs, f => match f == n with
    | true => some x
    | false => lookD ns xs f
  | _, _, _ => none
theorem lookD_spec {K : PySem.W.Frag} {H : Hp} {f : Str} {z : D} : ∀ {fs : List (Str × V)} {xs : List D}, Reps K H (fs.map (·.2)) xs → lookD (fs.map (·.1)) xs f = some z → ∃ v, fs.lookup f = some v ∧ Rep K H v z
  | [], _, _, h => by cases h
  | (n, v) :: fs, xs, r, h => by
    cases r with
    | cons r1 r2 =>
      have h' : (match f == n with | true => some _ | false => lookD (fs.map (·.1)) _ f) = some z := h
      show ∃ v', (match f == n with | true => some v | false => fs.lookup f) = some v' ∧ _
      cases e : f == n with
      | true => rw [e] at h'; cases h'; exact ⟨v, rfl, r1⟩
      | false => rw [e] at h'; exact lookD_spec r2 h'
theorem look_none {f : Str} : ∀ {fs : List (Str × V)}, ((fs.map (·.1)).any fun n => f == n) = false → fs.lookup f = none
  | [], _ => rfl
  | (n, v) :: fs, h => by
    rw [List.map_cons, List.any_cons, Bool.or_eq_false_iff] at h
    show (match f == n with | true => some v | false => fs.lookup f) = none
    rw [show (f == n) = false from h.1]; exact look_none h.2
def fldD (C : Addr) (f : Str) (d : D) (k : D → Prop) : Prop := match d with
  | .obj C' ns xs => C' = C ∧ (match lookD ns xs f with | some z => k z | none => False)
  | _ => False
def insD (C : Addr) (m : Str) (d : D) : Prop := match d with
  | .obj C' ns _ => C' = C ∧ (ns.any fun n => m == n) = false
  | _ => False
def isC (C : Addr) (d : D) : Prop := match d with
  | .obj C' _ _ => C' = C
  | _ => False
def wFld (C : Addr) (f : Str) (a : WE) : WE := fun ρ Q R => a ρ (fun d ρ1 => fldD C f d fun z => Q z ρ1) R
def wMeth (sp : SpD) (C : Addr) (m : Str) (o : WE) (a : WAr) : WE := fun ρ Q R => o ρ (fun d ρ1 => insD C m d ∧ a ρ1 (fun as ρ2 => spK sp (.v d :: as) ρ2 (fun r ρ' => r.asD fun z => Q z ρ') R) R) R
def wMethO (sp : SpD) (C : Addr) (m : Str) (o : WE) (a : WAr) : WO := fun ρ Q R => o ρ (fun d ρ1 => insD C m d ∧ a ρ1 (fun as ρ2 => spK sp (.v d :: as) ρ2 (fun r ρ' => r.asO fun z => Q z ρ') R) R) R
def wGet (sp : SpD) (C : Addr) (a b : WE) : WE := fun ρ Q R => a ρ (fun d ρ1 => b ρ1 (fun i ρ2 => isC C d ∧ spK sp [.v d, .v i] ρ2 (fun r ρ' => r.asD fun z => Q z ρ') R) R) R
section
variable {K : PySem.W.Frag} {W : WW}
theorem Rep.obj_inv {H : Hp} {v : V} {C : Addr} {ns : List Str} {xs : List D} (h : Rep K H v (.obj C ns xs)) : ∃ a dx fs, v = .ref a ∧ H a = some (.ins C dx fs) ∧ fs.map (·.1) = ns ∧ Reps K H (fs.map (·.2)) xs := by
  cases h with
  | obj h1 h2 => exact ⟨_, _, _, rfl, h1, rfl, h2⟩
theorem le_meth {sp : SpD} {C : Addr} {m : Str} {to : TE} {t : TA} {o : WE} {a : WAr} (mo : MonoSp sp) (ho : LE K W to o) (ha : LAr K W t a) : LE K W (tMethF C m (spOf K sp) [] W.x to t) (wMeth sp C m o a) := fun fm H σ ρ Q R QV s q x k =>
  ho fm H σ ρ _ R _ s q x fun v H1 d ρ1 q1 g1 r1 => by
    cases d <;> first | exact q1.1.elim | skip
    rename_i C' ns xs
    obtain ⟨⟨rfl, hn⟩, q1⟩ := q1
    obtain ⟨b, dx, fs, rfl, hb, rfl, hfs⟩ := r1.obj_inv
    refine ⟨b, dx, fs, rfl, hid_le _ _ hb, look_none hn, ha fm H1 σ ρ1 _ R _ g1.rs q1 (x.to g1) fun vs H2 as ρ2 q2 g2 r2 => ?_⟩
    rw [List.append_nil]
    have g12 := g1.trans g2
    exact call_core mo g12.rs (as := .v _ :: as) ⟨g2.go.rep r1, r2⟩ (k1 := Q) (k2 := fun o ρ' => Q o.toD ρ') _ (fun r ρ' h => by cases r <;> exact h) (fun v H' d ρ' q' g' rv => k v H' d ρ' q' (g12.trans g') rv)
      (fun p H' o ρ' q' n => k _ H' _ ρ' q' (g12.trans n.to) (own_rep (B := ownAs p o) n.oa (n.rs.notin (mem_ownAs p o)))) q2 (x.to g12)
theorem lo_meth {sp : SpD} {C : Addr} {m : Str} {to : TE} {t : TA} {o : WE} {a : WAr} (mo : MonoSp sp) (ho : LE K W to o) (ha : LAr K W t a) : LO K W (tMethF C m (spOf K sp) [] W.x to t) (wMethO sp C m o a) := fun fm H σ ρ Q R QV s q x k =>
  ho fm H σ ρ _ R _ s q x fun v H1 d ρ1 q1 g1 r1 => by
    cases d <;> first | exact q1.1.elim | skip
    rename_i C' ns xs
    obtain ⟨⟨rfl, hn⟩, q1⟩ := q1
    obtain ⟨b, dx, fs, rfl, hb, rfl, hfs⟩ := r1.obj_inv
    refine ⟨b, dx, fs, rfl, hid_le _ _ hb, look_none hn, ha fm H1 σ ρ1 _ R _ g1.rs q1 (x.to g1) fun vs H2 as ρ2 q2 g2 r2 => ?_⟩
    rw [List.append_nil]
    have g12 := g1.trans g2
    exact call_core mo g12.rs (as := .v _ :: as) ⟨g2.go.rep r1, r2⟩ (k1 := fun _ _ => False) (k2 := Q) _ (fun r ρ' h => by cases r <;> exact h) (fun v H' d ρ' q' g' rv => q'.elim) (fun p H' o ρ' q' n => k p H' o ρ' q' (.of g12 n)) q2 (x.to g12)
theorem le_get {sp : SpD} {C : Addr} {ta tb : TE} {a b : WE} (mo : MonoSp sp) (ha : LE K W ta a) (hb : LE K W tb b) : LE K W (tGetF C (spOf K sp) W.x ta tb) (wGet sp C a b) := fun fm H σ ρ Q R QV s q x k =>
  ha fm H σ ρ _ R _ s q x fun v H1 d ρ1 q1 g1 r1 => hb fm H1 σ ρ1 _ R _ g1.rs q1 (x.to g1) fun u H2 i ρ2 q2 g2 r2 => by
    have g12 := g1.trans g2
    have r1' := g2.go.rep r1
    refine ⟨?_, call_core mo g12.rs (as := [.v d, .v i]) ⟨r1', r2, trivial⟩ (k1 := Q) (k2 := fun o ρ' => Q o.toD ρ') _ (fun r ρ' h => by cases r <;> exact h) (fun v H' d ρ' q' g' rv => k v H' d ρ' q' (g12.trans g') rv)
      (fun p H' o ρ' q' n => k _ H' _ ρ' q' (g12.trans n.to) (own_rep (B := ownAs p o) n.oa (n.rs.notin (mem_ownAs p o)))) q2.2 (x.to g12)⟩
    cases d <;> first | exact q2.1.elim | skip
    rename_i C' ns xs
    obtain ⟨rfl, _⟩ := q2
    obtain ⟨b, dx, fs, rfl, hb, _⟩ := r1'.obj_inv
    exact ⟨b, dx, fs, rfl, hid_le _ _ hb⟩
theorem le_fld {C : Addr} {f : Str} {ta : TE} {a : WE} (c : Cls K C) (n : NoAttr K C f) (ha : LE K W ta a) : LE K W (tFld K ta f) (wFld C f a) := fun fm H σ ρ Q R QV s q x k =>
  ha fm H σ ρ _ R _ s q x fun v H1 d ρ1 q1 g1 r1 => by
    cases d <;> first | exact q1.elim | skip
    rename_i C' ns xs
    obtain ⟨rfl, q1⟩ := q1
    obtain ⟨b, dx, fs, rfl, hb, rfl, hfs⟩ := r1.obj_inv
    cases e : lookD (fs.map (·.1)) xs f with
    | none => rw [e] at q1; exact q1.elim
    | some z =>
      rw [e] at q1
      obtain ⟨v, h1, h2⟩ := lookD_spec hfs e
      exact ⟨b, _, dx, fs, v, rfl, hid_le _ _ hb, c, n, h1, k v H1 z ρ1 q1 g1 h2⟩
end
section
variable {X : Cx} {W : WW} {k : Nat} {f C : Addr} {fd : FuncData} {ps : List Str} {sp : SpD} {x m : Str} {p pos apos : Pos} {e o : Expr} {es : List Expr} {a : WAr} {wo wa wb : WE}
theorem de_fld {f : Str} (c : Cls X.K C) (n : NoAttr X.K C f) (ho : DE X W o wo) (hb : attributeBase o f X.env (eval o X.env) = eval o X.env := by rfl) : DE X W (.Attribute o f pos) (wFld C f wo) := by
  obtain ⟨t, p, l⟩ := ho.ex
  exact ⟨_, pe_fld p hb, le_fld c n l⟩
theorem de_meth {pl : Sem Bool} (ho : DE X W o wo) (c : Cls X.K C) (hm : Meth X.K C m f) (F : FnOk X.prog X.w X.K X.mg X.base (L2.CX X.prog X.w) k f fd ps (spOf X.K sp)) (mo : MonoSp sp) (hr : Room k X.A) (hb : Binds X.K fd ps []) (tk : Takes X W.x) (ha : DR X W (e :: es) a)
    (hst : starEach (e :: es) X.env = (false, eval e X.env) :: starEach es X.env := by rfl) (hpl : (backTo pos (starEach es X.env)).any (·.1) = false := by rfl)
    (ht : eval (.Call (.Attribute o m apos) (e :: es) [] pos) X.env = (do
      let ov ← eval o X.env
      standAt apos.atName
      let (f, first) ← holding [ov] (getMethod ov m pl)
      callWith pos f first (backTo pos (starEach (e :: es) X.env)) (backToKw pos (keywordEach [] X.env))) := by rfl) :
    DE X W (.Call (.Attribute o m apos) (e :: es) [] pos) (wMeth sp C m wo a) := by
  obtain ⟨t, p1, l⟩ := ha.ex
  obtain ⟨t0, p0, l0⟩ := ho.ex
  exact ⟨_, pe_methF p0 c hm F hr hb .nil tk p1 hst hpl ht, le_meth mo l0 l⟩
theorem do_meth {pl : Sem Bool} (ho : DE X W o wo) (c : Cls X.K C) (hm : Meth X.K C m f) (F : FnOk X.prog X.w X.K X.mg X.base (L2.CX X.prog X.w) k f fd ps (spOf X.K sp)) (mo : MonoSp sp) (hr : Room k X.A) (hb : Binds X.K fd ps []) (tk : Takes X W.x) (ha : DR X W (e :: es) a)
    (hst : starEach (e :: es) X.env = (false, eval e X.env) :: starEach es X.env := by rfl) (hpl : (backTo pos (starEach es X.env)).any (·.1) = false := by rfl)
    (ht : eval (.Call (.Attribute o m apos) (e :: es) [] pos) X.env = (do
      let ov ← eval o X.env
      standAt apos.atName
      let (f, first) ← holding [ov] (getMethod ov m pl)
      callWith pos f first (backTo pos (starEach (e :: es) X.env)) (backToKw pos (keywordEach [] X.env))) := by rfl) :
    DO X W (.Call (.Attribute o m apos) (e :: es) [] pos) (wMethO sp C m wo a) := by
  obtain ⟨t, p1, l⟩ := ha.ex
  obtain ⟨t0, p0, l0⟩ := ho.ex
  exact ⟨_, pe_methF p0 c hm F hr hb .nil tk p1 hst hpl ht, lo_meth mo l0 l⟩
theorem de_get {slice : Expr} (ho : DE X W o wa) (hi : DE X W slice wb) (hs : PySem.W.findIn X.K (.ref C) "__getitem__" = some (some (.ref f))) (hf : PySem.W.fnIn X.K f = true) (hfn : PySem.W.isFn X.K (.ref f) = true)
    (F : FnOk X.prog X.w X.K X.mg X.base (L2.CX X.prog X.w) k f fd ps (spOf X.K sp)) (mo : MonoSp sp) (hr : Room (k + 1) X.A) (hb : Binds X.K fd ps []) (tk : Takes X W.x)
    (hsl : ∀ x i, subscripted slice true x i = runValue (.builtin "lifetime.subscript" ⟨[x, i], []⟩) := by intros; with_unfolding_all rfl) :
    DE X W (.Subscript o slice pos) (wGet sp C wa wb) := by
  obtain ⟨t, p1, l⟩ := hi.ex
  obtain ⟨t0, p0, l0⟩ := ho.ex
  exact ⟨_, pe_getF p0 p1 hs hf hfn F hr hb tk hsl, le_get mo l0 l⟩
end
end DL

set_option Elab.async false
set_option linter.all false
set_option maxRecDepth 100000
namespace DL
open PySem L2

/-! ## new instances -/
theorem owned_vs : ∀ (vs : List V) (ds : List D), owned (vs.map some) (ds.map Sl.v) = []
  | [], ds => rfl
  | v :: vs, [] => rfl
  | v :: vs, d :: ds => by show slotAs (some v) (.v d) ++ owned (vs.map some) (ds.map Sl.v) = []; rw [slotAs_v, owned_vs]; rfl
theorem ioF_vs : ∀ (n : Nat) (vs : List V) (ds : List D), ioF n (vs.map some) (ds.map Sl.v) = []
  | n, [], ds => by cases ds <;> rfl
  | n, v :: vs, [] => by cases v <;> rfl
  | n, v :: vs, d :: ds => by have := ioF_vs (n + 1) vs ds; cases v <;> exact this
theorem slot_vs {K : PySem.W.Frag} {Hm H : Hp} : ∀ {vs : List V} {ds : List D}, Reps K Hm vs ds → ∀ j, SlotOk K Hm H ((vs.map some).getD j none) (Env.at (ds.map Sl.v) j)
  | [], ds, h, j => by cases h; exact slot_no ..
  | v :: vs, ds, h, j => by cases h with | cons h1 h2 => cases j with
    | zero => exact h1
    | succ j => exact slot_vs h2 j
theorem post_gen {K : PySem.W.Frag} {fm : Fm} {H H' H2 : Hp} {σ : St} {ρ : Env} (s : RS K fm H σ ρ) (hin : ∀ b, b ∈ fm.E ++ owned σ ρ → H2 b = H b) (hout : ∀ b, b ∉ fm.E ++ owned σ ρ → H2 b = H' b)
    (gk : ∀ b o, H b = some o → b ∉ fm.E ++ owned σ ρ → H' b = some o) (ri : ∀ b C dx fs, H' b = some (.ins C dx fs) → H' dx = some (.own b)) (no : ∀ a ∈ fm.E ++ owned σ ρ, H' a = none) :
    To K fm σ H ρ H2 ρ ∧ Mo H' H2 ∧ Mo H' (fm.hid σ ρ H2) := by
  have vis : Mo H' H2 := fun c u q => (hout c fun hc => by rw [no c hc] at q; cases q).trans q
  have upAll : ∀ b o, H b = some o → H2 b = some o := fun b o q => by
    by_cases hb : b ∈ fm.E ++ owned σ ρ
    · rw [hin b hb]; exact q
    · exact vis b o (gk b o q hb)
  have hidUp : ∀ b o, fm.hid σ ρ H b = some o → fm.hid σ ρ H2 b = some o := fun b o q => by
    obtain ⟨m, q⟩ := hide_some q
    exact (hide_out m).trans (upAll b o q)
  have hid2 : Mo H' (fm.hid σ ρ H2) := fun b o q => (hide_out fun hc => by rw [no b hc] at q; cases q).trans (vis b o q)
  refine ⟨⟨⟨s.len, fun j => ?_, s.nd, fun a ha => ?_, fun b C dx fs q => ?_, fun b C dx fs q => ?_, fun c b hc q => ?_, fun b o q => upAll b o (s.keep b o q), s.fx⟩, fun b o q _ => upAll b o q, fun _ z => z⟩, vis, hid2⟩
  · have q := s.sl j
    revert q
    cases σ.getD j none with
    | none => cases Env.at ρ j <;> exact fun q => q
    | some v =>
      cases Env.at ρ j with
      | no => exact fun q => q
      | v d => exact fun q => Rep.mono hidUp q
      | own od =>
        cases v with
        | ref a =>
          intro q
          cases od with
          | lst ds => obtain ⟨vs, h1, h2⟩ := q; exact ⟨vs, upAll _ _ h1, h2.mono hidUp⟩
          | dic ks ds => obtain ⟨kvs, h1, h2, h3⟩ := q; exact ⟨kvs, upAll _ _ h1, h2, h3.mono hidUp⟩
          | ins C dx ns ds => obtain ⟨fs, h1, h2, h3, h4⟩ := q; exact ⟨fs, upAll _ _ h1, h2, h3.mono hidUp, upAll _ _ h4⟩
        | _ => exact fun q => q
  · obtain ⟨⟨o, q, w⟩, g⟩ := s.tr a ha
    exact ⟨⟨o, upAll a o q, w⟩, g⟩
  · by_cases hb : b ∈ fm.E ++ owned σ ρ
    · rw [hin b hb] at q; exact upAll _ _ (s.ins b C dx fs q)
    · rw [hout b hb] at q; exact vis _ _ (ri b C dx fs q)
  · by_cases hb : b ∈ fm.E ++ owned σ ρ
    · rw [hin b hb] at q; exact s.cl b C dx fs q
    · rw [hout b hb] at q
      have := ri b C dx fs q
      exact ⟨fun z => by (rw [no dx z] at this; cases this), fun z => (hb z).elim⟩
  · rw [hin c hc] at q
    obtain ⟨h1, C, fs, h2⟩ := s.co c b hc q
    exact ⟨h1, C, fs, upAll _ _ h2⟩
section
variable {K : PySem.W.Frag} {fm : Fm} {H : Hp} {σ : St} {ρ : Env} {x dx C : Addr} {vs : List V} {ds : List D}
theorem owned_mk (ds : List D) : owned ((V.ref x :: vs).map some) (.own (.ins C dx [] []) :: ds.map Sl.v) = [x, dx] := by
  show [x, dx] ++ owned (vs.map some) (ds.map Sl.v) = _
  rw [owned_vs]; rfl
theorem made_out (hx : H x = none) (hd : H dx = none) {b : Addr} {o : HO} (h : H b = some o) : upd (upd H dx (.own x)) x (.ins C dx []) b = some o := by
  have n1 : b ≠ x := fun e => by subst e; rw [hx] at h; cases h
  have n2 : b ≠ dx := fun e => by subst e; rw [hd] at h; cases h
  rw [upd_ne n1, upd_ne n2]; exact h
theorem RS.entryM (s : RS K fm H σ ρ) (hr : Reps K (fm.hid σ ρ H) vs ds) (hx : H x = none) (hd : H dx = none) (ne : dx ≠ x) :
    RS K (entryFm (hide (fm.E ++ owned σ ρ) (upd (upd H dx (.own x)) x (.ins C dx []))) (.ref x :: vs) (.own (.ins C dx [] []) :: ds.map Sl.v)) (hide (fm.E ++ owned σ ρ) (upd (upd H dx (.own x)) x (.ins C dx []))) ((V.ref x :: vs).map some) (.own (.ins C dx [] []) :: ds.map Sl.v) := by
  have nx : x ∉ fm.E ++ owned σ ρ := fun z => s.trk x z hx
  have nd : dx ∉ fm.E ++ owned σ ρ := fun z => s.trk dx z hd
  have e := owned_mk (x := x) (dx := dx) (C := C) (vs := vs) ds
  have gx : hide (fm.E ++ owned σ ρ) (upd (upd H dx (.own x)) x (.ins C dx [])) x = some (.ins C dx []) := (hide_out nx).trans upd_same
  have gd : hide (fm.E ++ owned σ ρ) (upd (upd H dx (.own x)) x (.ins C dx [])) dx = some (.own x) := (hide_out nd).trans (by rw [upd_ne ne, upd_same])
  have old : ∀ b o, b ≠ x → b ≠ dx → hide (fm.E ++ owned σ ρ) (upd (upd H dx (.own x)) x (.ins C dx [])) b = some o → b ∉ fm.E ++ owned σ ρ ∧ H b = some o := fun b o n1 n2 h => by
    obtain ⟨m, h⟩ := hide_some h
    rw [upd_ne n1, upd_ne n2] at h
    exact ⟨m, h⟩
  have up : ∀ b o, fm.hid σ ρ H b = some o → hide ([] ++ owned ((V.ref x :: vs).map some) (.own (.ins C dx [] []) :: ds.map Sl.v)) (hide (fm.E ++ owned σ ρ) (upd (upd H dx (.own x)) x (.ins C dx []))) b = some o := fun b o h => by
    obtain ⟨m, h⟩ := hide_some h
    have n1 : b ≠ x := fun e => by subst e; rw [hx] at h; cases h
    have n2 : b ≠ dx := fun e => by subst e; rw [hd] at h; cases h
    rw [e]
    exact (hide_out (by simp [n1, n2])).trans ((hide_out m).trans (made_out hx hd h))
  refine ⟨by simp [hr.length], fun j => ?_, by rw [List.nil_append, e]; simp [ne.symm], fun a ha => ?_, fun b C' dx' fs h => ?_, fun b C' dx' fs h => ?_, fun c b hc h => ?_, hid_le, fun p hp => ?_⟩
  · cases j with
    | zero => exact ⟨[], gx, rfl, .nil, gd⟩
    | succ j => exact slot_vs (hr.mono up) j
  · rw [List.nil_append, e] at ha
    refine ⟨?_, by rw [show (entryFm (hide (fm.E ++ owned σ ρ) (upd (upd H dx (.own x)) x (.ins C dx []))) (.ref x :: vs) (.own (.ins C dx [] []) :: ds.map Sl.v)).G = hide (owned ((V.ref x :: vs).map some) (.own (.ins C dx [] []) :: ds.map Sl.v)) (hide (fm.E ++ owned σ ρ) (upd (upd H dx (.own x)) x (.ins C dx []))) from rfl, e]; exact hide_in ha⟩
    rcases List.mem_cons.mp ha with rfl | ha
    · exact ⟨_, gx, trivial⟩
    · obtain rfl := List.mem_singleton.mp ha
      exact ⟨_, gd, trivial⟩
  · by_cases q : b = x
    · subst q; rw [gx] at h; cases h; exact gd
    · have q2 : b ≠ dx := fun z => by subst z; rw [gd] at h; cases h
      obtain ⟨m, h⟩ := old b _ q q2 h
      have h2 := s.ins b C' dx' fs h
      exact (hide_out fun z => m ((s.cl b C' dx' fs h).mp z)).trans (made_out hx hd h2)
  · rw [List.nil_append, e]
    by_cases q : b = x
    · subst q; rw [gx] at h; cases h; simp
    · have q2 : b ≠ dx := fun z => by subst z; rw [gd] at h; cases h
      obtain ⟨m, h⟩ := old b _ q q2 h
      have h2 := s.ins b C' dx' fs h
      have n1 : dx' ≠ x := fun z => by subst z; rw [hx] at h2; cases h2
      have n2 : dx' ≠ dx := fun z => by subst z; rw [hd] at h2; cases h2
      simp [q, q2, n1, n2]
  · rw [List.nil_append, e] at hc ⊢
    rcases List.mem_cons.mp hc with rfl | hc
    · rw [gx] at h; cases h
    · obtain rfl := List.mem_singleton.mp hc
      rw [gd] at h; cases h
      exact ⟨by simp, C, [], gx⟩
  · have hp' : p ∈ (0, x) :: ioF 1 (vs.map some) (ds.map Sl.v) := hp
    rw [ioF_vs] at hp'
    obtain rfl := List.mem_singleton.mp hp'
    rfl
end
/-- what __init__ leaves -/
def madeK (C dx : Addr) (r : Sl) (out : List Sl) (k : List Str → List D → Prop) : Prop := match r, out with
  | .v .non, .own (.ins C' dx' ns xs) :: _ => C' = C ∧ dx' = dx ∧ k ns xs
  | _, _ => False
def wMake (sp : SpD) (C : Addr) (a : WA) : WE := fun ρ Q R => a ρ (fun ds ρ1 => ∀ dx, sp (.own (.ins C dx [] []) :: ds.map Sl.v) (fun r out => madeK C dx r out fun ns xs => Q (.obj C ns xs) ρ1) fun x _ => R x ρ1) R
def tMakeF (C : Addr) (sp : Sp) (dvs : List V) (W : WX) (t : TA) : TE := fun σ H Q => t σ H fun vs H1 => ∃ A, (∀ x dx, H1 x = none → H1 dx = none → dx ≠ x → HidOk A (upd (upd H1 dx (.own x)) x (.ins C dx []))) ∧
  ∀ x dx, H1 x = none → H1 dx = none → dx ≠ x → sp (.ref x :: (vs ++ dvs)) (hide A (upd (upd H1 dx (.own x)) x (.ins C dx []))) (fun v H' => (∀ a ∈ A, H' a = none) → v = .non ∧ Q (.ref x) (over A (upd (upd H1 dx (.own x)) x (.ins C dx [])) H'))
      fun cls dd H' => (∀ a ∈ A, H' a = none) → W cls dd σ (over A (upd (upd H1 dx (.own x)) x (.ins C dx [])) H')
section
variable {X : Cx} {k : Nat} {f C : Addr} {fd : FuncData} {ps : List Str} {x : Str} {p pos : Pos} {e : Expr} {es : List Expr}
theorem pe_makeF {W : WX} {sp : Sp} {t : TA} {dvs : List V} {ds : List Value} (M : Mk X.K C f) (F : FnOk X.prog X.w X.K X.mg X.base (L2.CX X.prog X.w) k f fd ps sp) (hr : Room (k + 1) X.A) (hg : Gl X x) (hm : X.mg x = some (.ref C)) (hb : Binds X.K fd ps ds) (hd : Vals dvs ds) (tk : Takes X W)
    (ha : PA X (e :: es) t) (hdb : (x == ("__debug__" : Str)) = false := by decide) (he : starEach (e :: es) X.env = (false, eval e X.env) :: starEach es X.env := by rfl) (hpl : (backTo pos (starEach es X.env)).any (·.1) = false := by rfl) :
    PE X (.Call (.Name x p) (e :: es) [] pos) (tMakeF C sp dvs W t) := by
  refine ⟨fun pins s σ H Q I h => ?_⟩
  refine wpAny_Call_Name_kw (ld_glob I hg hm ?_ hdb)
  refine PySem.W.callWith_K (h₀ := X.base) I.ok.mod.kin M.kp (thn (ha.run pos pins s σ H _ I h) fun us s1 ⟨vs, H1, I1, r, A, ho, q⟩ => ⟨I1.kIn, ?_⟩) he hpl
  exact run_makeF M F hr hb hd tk I1 r ho q
theorem pe_makeF0 {W : WX} {sp : Sp} {dvs : List V} {ds : List Value} (M : Mk X.K C f) (F : FnOk X.prog X.w X.K X.mg X.base (L2.CX X.prog X.w) k f fd ps sp) (hr : Room (k + 1) X.A) (hg : Gl X x) (hm : X.mg x = some (.ref C)) (hb : Binds X.K fd ps ds) (hd : Vals dvs ds) (tk : Takes X W)
    (hdb : (x == ("__debug__" : Str)) = false := by decide) : PE X (.Call (.Name x p) [] [] pos) (tMakeF C sp dvs W tNil) := by
  refine ⟨fun pins s σ H Q I h => ?_⟩
  refine wpAny_Call_Name_kw (ld_glob I hg hm ?_ hdb)
  obtain ⟨A, ho, q⟩ := h
  exact PySem.W.callWith_K0 I.kIn M.kp (run_makeF (us := []) M F hr hb hd tk I .nil ho q)
end
theorem le_make {K : PySem.W.Frag} {W : WW} {sp : SpD} {C : Addr} {t : TA} {a : WA} (mo : MonoSp sp) (ha : LA K W t a) : LE K W (tMakeF C (spOf K sp) [] W.x t) (wMake sp C a) := fun fm H σ ρ Q R QV s q x k =>
  ha fm H σ ρ _ R _ s q x fun vs H1 ds ρ1 q1 g1 r1 => by
    have s1 := g1.rs
    refine ⟨fm.E ++ owned σ ρ1, fun y dy hy hdy ne => ?_, fun y dy hy hdy ne => ?_⟩
    · have ny : y ∉ fm.E ++ owned σ ρ1 := fun z => s1.trk y z hy
      have nd : dy ∉ fm.E ++ owned σ ρ1 := fun z => s1.trk dy z hdy
      have e : ∀ b, b ∈ fm.E ++ owned σ ρ1 → upd (upd H1 dy (.own y)) y (.ins C dy []) b = H1 b := fun b hb => by
        have n1 : b ≠ y := fun z => by subst z; exact ny hb
        have n2 : b ≠ dy := fun z => by subst z; exact nd hb
        rw [upd_ne n1, upd_ne n2]
      have ho := s1.hidOk
      exact ⟨fun b hb => by rw [e b hb]; exact ho.tr b hb, fun b C' dx fs hb h => by rw [e b hb] at h; exact ho.cl b C' dx fs hb h, fun c b hc h => by rw [e c hc] at h; exact ho.co c b hc h⟩
    · rw [List.append_nil]
      have en := s1.entryM (C := C) r1 hy hdy ne
      have ny : y ∉ fm.E ++ owned σ ρ1 := fun z => s1.trk y z hy
      have nd : dy ∉ fm.E ++ owned σ ρ1 := fun z => s1.trk dy z hdy
      have hin : ∀ (H' : Hp) b, b ∈ fm.E ++ owned σ ρ1 → over (fm.E ++ owned σ ρ1) (upd (upd H1 dy (.own y)) y (.ins C dy [])) H' b = H1 b := fun H' b hb => by
        have n1 : b ≠ y := fun z => by subst z; exact ny hb
        have n2 : b ≠ dy := fun z => by subst z; exact nd hb
        rw [over_in hb, upd_ne n1, upd_ne n2]
      have eo := owned_mk (x := y) (dx := dy) (C := C) (vs := vs) ds
      have gk : ∀ (out : List Sl) (H' : Hp), RS K (entryFm (hide (fm.E ++ owned σ ρ1) (upd (upd H1 dy (.own y)) y (.ins C dy []))) (.ref y :: vs) (.own (.ins C dy [] []) :: ds.map Sl.v)) H' ((V.ref y :: vs).map some) out →
          ∀ b o, H1 b = some o → b ∉ fm.E ++ owned σ ρ1 → H' b = some o := fun out H' ro b o h m => ro.keep b o (by
        have n1 : b ≠ y := fun e => by subst e; rw [hy] at h; cases h
        have n2 : b ≠ dy := fun e => by subst e; rw [hdy] at h; cases h
        show hide (owned ((V.ref y :: vs).map some) (.own (.ins C dy [] []) :: ds.map Sl.v)) _ b = _
        rw [eo]
        exact (hide_out (by simp [n1, n2])).trans ((hide_out m).trans (made_out hy hdy h)))
      refine ⟨_, en, mo _ _ _ _ _ (fun r out qr => ?_) (fun ex out qr => ?_) (q1 dy)⟩
      · intro v H' ro rt no
        obtain ⟨to, vis, hid2⟩ := post_gen s1 (hin H') (fun b hb => over_out hb) (gk out H' ro) ro.ins no
        -- the shape of what is left
        cases r with
        | no => exact rt.elim
        | own o => cases out <;> exact qr.elim
        | v d =>
          cases d <;> first | (cases out <;> exact qr.elim) | skip
          cases out with
          | nil => exact qr.elim
          | cons s0 out =>
            cases s0 with
            | no => exact qr.elim
            | v d => exact qr.elim
            | own o =>
              cases o with
              | lst _ => exact qr.elim
              | dic _ _ => exact qr.elim
              | ins C' dx' ns xs =>
                obtain ⟨rfl, rfl, qr⟩ := qr
                refine ⟨by cases rt; rfl, ?_⟩
                obtain ⟨fs, h1, h2, h3, h4⟩ := (show OwnAt K _ H' y (.ins C' dx' ns xs) from ro.sl 0)
                subst h2
                exact k _ _ _ ρ1 qr (g1.trans to) (.obj (hid2 _ _ h1) (h3.mono fun b o z => hid2 b o (hid_le b o z)))
      · intro cls dd H' ro er no
        obtain ⟨to, vis, hid2⟩ := post_gen s1 (hin H') (fun b hb => over_out hb) (gk out H' ro) ro.ins no
        exact x.ok ex ρ1 _ cls dd qr (g1.trans to) (exr_up (fun b o z => hid2 b o (hid_le b o z)) vis er)
section
variable {X : Cx} {W : WW} {k : Nat} {f C : Addr} {fd : FuncData} {ps : List Str} {sp : SpD} {x : Str} {p pos : Pos} {e : Expr} {es : List Expr} {a : WA}
theorem de_make (M : Mk X.K C f) (F : FnOk X.prog X.w X.K X.mg X.base (L2.CX X.prog X.w) k f fd ps (spOf X.K sp)) (mo : MonoSp sp) (hr : Room (k + 1) X.A) (hg : Gl X x) (hm : X.mg x = some (.ref C)) (hb : Binds X.K fd ps []) (tk : Takes X W.x)
    (ha : DA X W (e :: es) a) (hdb : (x == ("__debug__" : Str)) = false := by decide) (he : starEach (e :: es) X.env = (false, eval e X.env) :: starEach es X.env := by rfl) (hpl : (backTo pos (starEach es X.env)).any (·.1) = false := by rfl) :
    DE X W (.Call (.Name x p) (e :: es) [] pos) (wMake sp C a) := by
  obtain ⟨t, p1, l⟩ := ha.ex
  exact ⟨_, pe_makeF M F hr hg hm hb .nil tk p1 hdb he hpl, le_make mo l⟩
end
end DL

set_option Elab.async false
set_option linter.all false
set_option maxRecDepth 100000
namespace DL
open PySem L2

/-! ## storing into fields of a frame's own instance -/
theorem owned_updI {a C dx : Addr} {ns ns' : List Str} {xs ys : List D} : ∀ {σ : St} {ρ : Env} {i : Nat}, σ[i]? = some (some (.ref a)) → Env.at ρ i = .own (.ins C dx ns xs) → owned σ (Env.put ρ i (.own (.ins C dx ns' ys))) = owned σ ρ
  | [], _, _, h, _ => by simp at h
  | _ :: _, [], _, _, h => by cases h
  | v :: σ, t :: ρ, 0, h, h' => by
    have e : v = some (.ref a) := by simpa using h
    have e' : t = .own (.ins C dx ns xs) := h'
    subst e e'; rfl
  | v :: σ, t :: ρ, i + 1, h, h' => by
    show slotAs v t ++ owned σ (Env.put ρ i (.own (.ins C dx ns' ys))) = slotAs v t ++ owned σ ρ
    rw [owned_updI (i := i) (by simpa using h) h']
/-- the own list in slot i is another one now -/
theorem RS.updI {K : PySem.W.Frag} {fm : Fm} {H : Hp} {σ : St} {ρ : Env} (r : RS K fm H σ ρ) {i : Nat} {a C dx : Addr} {ns ns' : List Str} {xs ys : List D} {fs gs : List (Str × V)} (hv : σ[i]? = some (some (.ref a))) (ho : Env.at ρ i = .own (.ins C dx ns xs)) (ha : H a = some (.ins C dx fs)) (hn : gs.map (·.1) = ns') (hr : Reps K (fm.hid σ ρ H) (gs.map (·.2)) ys) :
    To K fm σ H ρ (upd H a (.ins C dx gs)) (Env.put ρ i (.own (.ins C dx ns' ys))) := by
  have e := owned_updI (i := i) (xs := xs) (ys := ys) (ns' := ns') hv ho
  have hi : i < ρ.length := at_lt ho
  have hi' : i < σ.length := by rw [r.len]; exact hi
  have e1 : σ.getD i none = some (.ref a) := by rw [List.getD_eq_getElem?_getD, hv]; rfl
  have ma : a ∈ owned σ ρ := owned_mem r.len hi (by rw [e1, ho]; simp [slotAs, ownAs])
  have hid : fm.hid σ (Env.put ρ i (.own (.ins C dx ns' ys))) (upd H a (.ins C dx gs)) = fm.hid σ ρ H := by
    funext b
    show hide (fm.E ++ owned σ (Env.put ρ i (.own (.ins C dx ns' ys)))) (upd H a (.ins C dx gs)) b = _
    rw [e]
    by_cases q : b ∈ fm.E ++ owned σ ρ
    · rw [hide_in q]; exact (hide_in q).symm
    · have nb : b ≠ a := fun z => q (List.mem_append_right _ (z ▸ ma))
      rw [hide_out q, upd_ne nb]; exact (hide_out q).symm
  have hdx : H dx = some (.own a) := r.ins a C dx fs ha
  have nda : dx ≠ a := fun z => by rw [z, ha] at hdx; cases hdx
  have keepH : ∀ b o, b ≠ a → H b = some o → upd H a (.ins C dx gs) b = some o := fun b o n h => (upd_ne n).trans h
  refine ⟨⟨by rw [Env.put_len]; exact r.len, fun j => ?_, by rw [e]; exact r.nd, fun b hb => ?_, fun b C' dx' fs' h => ?_, fun b C' dx' fs' h => ?_, fun c b hc h => ?_, fun b o h => ?_, r.fx⟩, fun b o h n => keepH b o (fun z => n (z ▸ ma)) h, fun b h => by rw [e] at h; exact h⟩
  · rw [hid, Env.at_put _ ρ i j hi]
    by_cases q : j = i
    · subst q; rw [if_pos rfl, e1]; exact ⟨gs, upd_same, hn, hr, keepH _ _ nda hdx⟩
    · rw [if_neg q]
      -- another slot's object is another one
      have s := r.sl j
      have ne : ∀ b ∈ slotAs (σ.getD j none) (Env.at ρ j), b ≠ a := fun b hb z => by
        subst z
        have nd := (List.nodup_append.mp r.nd).2.1
        have O := owned_at σ ρ i hi' hi
        rw [e1, ho] at O
        have nd2 := O.nodup_iff.mp nd
        have : b ∈ owned (σ.set i none) (Env.put ρ i .no) := by
          by_cases hj : j < ρ.length
          · refine owned_mem (σ := σ.set i none) (by rw [List.length_set, Env.put_len]; exact r.len) (i := j) (by rw [Env.put_len]; exact hj) ?_
            rw [getD_set hi', if_neg q, Env.at_put _ ρ i j hi, if_neg q]; exact hb
          · have : σ.getD j none = none := by rw [List.getD_eq_getElem?_getD, List.getElem?_eq_none (by rw [r.len]; omega)]; rfl
            rw [this] at hb; simp [slotAs] at hb
        exact (List.nodup_append.mp nd2).2.2 b (by simp [slotAs, ownAs]) b this rfl
      revert s ne
      cases σ.getD j none with
      | none => cases Env.at ρ j <;> exact fun h _ => h
      | some v =>
        cases Env.at ρ j with
        | no => exact fun h _ => h
        | v d => exact fun h _ => h
        | own o =>
          cases v with
          | ref c =>
            intro s ne
            cases o with
            | lst ds => obtain ⟨ws, h1, h2⟩ := s; exact ⟨ws, keepH _ _ (ne c (by simp [slotAs, ownAs])) h1, h2⟩
            | dic ks ds => obtain ⟨ws, h1, h2⟩ := s; exact ⟨ws, keepH _ _ (ne c (by simp [slotAs, ownAs])) h1, h2⟩
            | ins C dx ns ds => obtain ⟨ws, h1, h2, h3, h4⟩ := s; exact ⟨ws, keepH _ _ (ne c (by simp [slotAs, ownAs])) h1, h2, h3, keepH _ _ (ne dx (by simp [slotAs, ownAs])) h4⟩
          | _ => exact fun h _ => h
  · rw [e] at hb
    obtain ⟨⟨o, h, w⟩, g⟩ := r.tr b hb
    by_cases q : b = a
    · subst q; exact ⟨⟨_, upd_same, trivial⟩, g⟩
    · exact ⟨⟨o, keepH b o q h, w⟩, g⟩
  · by_cases nb : b = a
    · subst nb; rw [upd_same] at h; cases h; exact keepH _ _ nda hdx
    · rw [upd_ne nb] at h
      have := r.ins b C' dx' fs' h
      exact keepH _ _ (fun z => by subst z; rw [ha] at this; cases this) this
  · rw [e]
    by_cases nb : b = a
    · subst nb; rw [upd_same] at h; cases h; exact r.cl _ _ _ _ ha
    · rw [upd_ne nb] at h
      exact r.cl b C' dx' fs' h
  · rw [e] at hc ⊢
    have nc : c ≠ a := fun z => by subst z; rw [upd_same] at h; cases h
    rw [upd_ne nc] at h
    obtain ⟨h1, C', fs', h2⟩ := r.co c b hc h
    refine ⟨h1, ?_⟩
    by_cases q : b = a
    · subst q; rw [ha] at h2; cases h2; exact ⟨_, _, upd_same⟩
    · exact ⟨C', fs', keepH _ _ q h2⟩
  · have g := (r.tr a (List.mem_append_right _ ma)).2
    exact keepH b o (fun z => by subst z; rw [g] at h; cases h) (r.keep b o h)


/-! targets that change the heap -/
def gAttr (to : TE) (f : Str) (K : PySem.W.Frag) : TG := fun y σ H Q => to σ H fun x H1 => ∃ a C dx fs, x = .ref a ∧ H1 a = some (.ins C dx fs) ∧ Cls K C ∧ NoAttr K C f ∧ fs.length < 1000 ∧ Q σ (upd H1 a (.ins C dx (putF f y fs)))
theorem pg_attr {X : Cx} {o : Expr} {f : Str} {pos : Pos} {to : TE} (ho : PE X o to)
    (ha : ∀ v, assign (.Attribute o f pos) X.env v = (do
      let ov ← holding [v] (eval o X.env)
      standAt pos.atName
      holding [v, ov] (setAttr ov f v)
      release [v, ov] []) := by intro _; rfl) : PG X (.Attribute o f pos) (gAttr to f X.K) := by
  refine ⟨fun pins s σ H v u Q I r h => ?_⟩
  rw [ha]
  refine wpAny_bind (wpAny_holding (thn (ho.run pins s σ H _ I h) fun ov s1 ⟨x, H1, I1, r1, a, C, dx, fs, ex, ea, c, n, l, q⟩ => ?_))
  subst ex
  obtain rfl : ov = Value.ref a := r1
  refine wpAny_bind (wpAny_standAt (wpAny_bind (wpAny_holding ?_)))
  exact setattr_ok (I1.tok _) ea c n l r fun s3 I3 => wpAny_release ⟨σ, _, I3, q⟩

def putN (f : Str) : List Str → List Str
  | [] => [f]
  | n :: ns => if n = f then n :: ns else n :: putN f ns
def putX (f : Str) (d : D) : List Str → List D → List D
  | [], _ => [d]
  | n :: ns, x :: xs => if n = f then d :: xs else x :: putX f d ns xs
  | _ :: _, [] => []
theorem putF_names (f : Str) (y : V) : ∀ fs : List (Str × V), (putF f y fs).map (·.1) = putN f (fs.map (·.1))
  | [] => rfl
  | (n, v) :: fs => by
    show (if n = f then (n, y) :: fs else (n, v) :: putF f y fs).map (·.1) = if n = f then n :: fs.map (·.1) else n :: putN f (fs.map (·.1))
    by_cases h : n = f
    · rw [if_pos h, if_pos h]; rfl
    · rw [if_neg h, if_neg h, List.map_cons, putF_names f y fs]
theorem putF_vals {K : PySem.W.Frag} {H : Hp} {f : Str} {y : V} {d : D} (hy : Rep K H y d) : ∀ {fs : List (Str × V)} {xs : List D}, Reps K H (fs.map (·.2)) xs → Reps K H ((putF f y fs).map (·.2)) (putX f d (fs.map (·.1)) xs)
  | [], xs, h => .cons hy .nil
  | (n, v) :: fs, xs, h => by
    cases h with
    | cons h1 h2 =>
      rename_i x xs
      show Reps K H ((if n = f then (n, y) :: fs else (n, v) :: putF f y fs).map (·.2)) (if n = f then d :: xs else x :: putX f d (fs.map (·.1)) xs)
      by_cases h : n = f
      · rw [if_pos h, if_pos h]; exact .cons hy h2
      · rw [if_neg h, if_neg h]; exact .cons h1 (putF_vals hy h2)
def modI (C : Addr) : Env → Nat → (List Str → List D → (List Str → List D → Env) → Prop) → Prop
  | [], _, _ => False
  | s :: ρ, 0, k => (match s with | .own (.ins C' dx ns xs) => C' = C ∧ k ns xs (fun ns' xs' => .own (.ins C' dx ns' xs') :: ρ) | _ => False)
  | s :: ρ, i + 1, k => modI C ρ i fun ns xs f => k ns xs fun ns' xs' => s :: f ns' xs'
theorem modI_spec {C : Addr} : ∀ {ρ : Env} {i : Nat} {k : List Str → List D → (List Str → List D → Env) → Prop}, modI C ρ i k → ∃ dx ns xs, Env.at ρ i = .own (.ins C dx ns xs) ∧ k ns xs fun ns' xs' => Env.put ρ i (.own (.ins C dx ns' xs'))
  | [], _, _, h => h.elim
  | s :: ρ, 0, k, h => by
    cases s with
    | no => exact h.elim
    | v d => exact h.elim
    | own o => cases o with
      | lst _ => exact h.elim
      | dic _ _ => exact h.elim
      | ins C' dx ns xs => obtain ⟨rfl, h⟩ := h; exact ⟨dx, ns, xs, rfl, h⟩
  | s :: ρ, i + 1, k, h => by
    obtain ⟨dx, ns, xs, h1, h2⟩ := modI_spec (ρ := ρ) (i := i) h
    exact ⟨dx, ns, xs, h1, h2⟩
def LH (K : PySem.W.Frag) (io : List Nat) (g : TG) (w : WG) : Prop :=
  ∀ (fm : Fm) (H : Hp) (σ : St) (ρ : Env) (v : V) (d : D) (Q : Env → Prop) (QV : St → Hp → Prop), RS K fm H σ ρ → (∀ p ∈ fm.F, p.1 ∈ io) → Rep K (fm.hid σ ρ H) v d → w d ρ Q →
    (∀ σ' H' ρ', Q ρ' → RS K fm H' σ' ρ' → Mo (fm.hid σ ρ H) (fm.hid σ' ρ' H') → QV σ' H') → g v σ H QV
def LHs (K : PySem.W.Frag) (io : List Nat) (g : TGs) (w : WGs) : Prop :=
  ∀ (fm : Fm) (H : Hp) (σ : St) (ρ : Env) (us : List V) (ds : List D) (Q : Env → Prop) (QV : St → Hp → Prop), RS K fm H σ ρ → (∀ p ∈ fm.F, p.1 ∈ io) → Reps K (fm.hid σ ρ H) us ds → w ds ρ Q →
    (∀ σ' H' ρ', Q ρ' → RS K fm H' σ' ρ' → Mo (fm.hid σ ρ H) (fm.hid σ' ρ' H') → QV σ' H') → g us σ H QV
structure DH (X : Cx) (io : List Nat) (e : Expr) (w : WG) : Prop where
  ex : ∃ g, PG X e g ∧ LH X.K io g w
structure DHs (X : Cx) (io : List Nat) (es : List Expr) (w : WGs) : Prop where
  ex : ∃ g, PGs X es g ∧ LHs X.K io g w
section
variable {X : Cx} {W : WW} {K : PySem.W.Frag} {io vs : List Nat}
theorem DG.dh {e : Expr} {w : WG} (h : DG X io vs e w) : DH X io e w := by
  obtain ⟨g, p, l⟩ := h.ex
  exact ⟨g, p, fun fm H σ ρ v d Q QV r hf rp q k => l fm H σ ρ v d Q QV r hf rp q fun σ' ρ' q' r' m _ _ => k σ' H ρ' q' r' m⟩
def gFld (C : Addr) (i : Nat) (f : Str) : WG := fun d ρ Q => modI C ρ i fun ns xs up => ns.length < 1000 ∧ Q (up (putN f ns) (putX f d ns xs))
theorem dh_attr {o : Expr} {f : Str} {pos : Pos} {C : Addr} {i : Nat} (ho : PE X o (tVar i)) (c : Cls X.K C) (n : NoAttr X.K C f)
    (ha : ∀ v, assign (.Attribute o f pos) X.env v = (do
      let ov ← holding [v] (eval o X.env)
      standAt pos.atName
      holding [v, ov] (setAttr ov f v)
      release [v, ov] []) := by intro _; rfl) : DH X io (.Attribute o f pos) (gFld C i f) := by
  refine ⟨_, pg_attr ho ha, fun fm H σ ρ v d Q QV r hf rp q k => ?_⟩
  obtain ⟨dx, ns, xs, h1, h2, q⟩ := modI_spec q
  obtain ⟨a, hv⟩ := r.own_at h1
  have so := r.sl i
  rw [h1, List.getD_eq_getElem?_getD, hv] at so
  obtain ⟨fs, g1, rfl, g3, g4⟩ := (show OwnAt X.K (fm.hid σ ρ H) H a (.ins C dx ns xs) from so)
  have t := r.updI (gs := putF f v fs) hv h1 g1 (putF_names f v fs) (putF_vals rp g3)
  exact ⟨.ref a, hv, a, C, dx, fs, rfl, g1, c, n, by rw [List.length_map] at h2; exact h2, k σ _ _ q t.rs fun b o z => t.go.sub b o z⟩
theorem dhs_nil : DHs X io [] gNilD := ⟨_, pgs_nil, fun fm H σ ρ us ds Q QV r hF rp q k => by
  obtain ⟨rfl, q⟩ := q
  cases rp
  exact ⟨rfl, k σ H ρ q r (fun _ _ h => h)⟩⟩
theorem dhs_cons {e : Expr} {es : List Expr} {g : WG} {r : WGs} (hg : DH X io e g) (hr : DHs X io es r) (hs : (assignEach (e :: es) X.env).map (·.2) = assign e X.env :: (assignEach es X.env).map (·.2) := by rfl) : DHs X io (e :: es) (gConsD g r) := by
  obtain ⟨t, p, l⟩ := hg.ex; obtain ⟨t', p', l'⟩ := hr.ex
  refine ⟨_, pgs_cons p p' hs, fun fm H σ ρ us ds Q QV r hF rp q k => ?_⟩
  cases rp with
  | nil => exact q.elim
  | cons r1 r2 =>
    refine ⟨_, _, rfl, l fm H σ ρ _ _ _ _ r hF r1 q fun σ1 H1 ρ1 q1 s1 m1 => l' fm H1 σ1 ρ1 _ _ Q QV s1 hF (r2.mono m1) q1 fun σ2 H2 ρ2 q2 s2 m2 => k σ2 H2 ρ2 q2 s2 fun b o h => m2 b o (m1 b o h)⟩
theorem dh_tup {es : List Expr} {kk : Nat} {pos : Pos} {r : WGs} {n : Nat} (hc : X.calm = true) (h : DHs X io es r) (hn : (assignEach es X.env).length = n := by rfl) (hst : (assignEach es X.env).findIdx? (·.1) = none := by rfl) : DH X io (.Tuple es kk pos) (gTupD n r) := by
  obtain ⟨t, p, l⟩ := h.ex
  refine ⟨_, pg_tup hc p hn hst, fun fm H σ ρ v d Q QV r hF rp q k => ?_⟩
  cases d <;> first | exact q.elim | skip
  obtain ⟨a, us, rfl, h1, h2⟩ := rp.tup_inv
  exact ⟨a, us, rfl, sqT_mono hid_le h1, by rw [h2.length]; exact q.1, l fm H σ ρ us _ Q QV r hF h2 q.2 k⟩
theorem ds_asgH {tg e : Expr} {a : WE} {g : WG} {pos : Pos} (ha : DE X W e a) (hg : DH X W.io tg g) (hs : swapsWithSole [tg] e pos.line X.env = pure false := by rfl) (hw : swappedStores [tg] e X.env = pure none := by rfl)
    (h1 : (assignEach [tg] X.env).map (·.2) = [assign tg X.env] := by rfl) : DS X W (.Assign [tg] e pos) (sAsg a g) := by
  obtain ⟨t, p, l⟩ := ha.ex; obtain ⟨t', p', l'⟩ := hg.ex
  refine ⟨_, ps_asg p p' hs hw h1, fun fm H σ ρ k D r hf q e => l fm H σ ρ _ k.ex _ r q (e.xok hf) fun v H1 d ρ1 q1 g1 r1 => l' fm H1 σ ρ1 v d _ _ g1.rs hf r1 q1 fun σ2 H2 ρ2 q2 s2 m2 => e.nx σ2 H2 ρ2 q2 s2 fun b o h => m2 b o (g1.go.sub b o h)⟩
end
end DL

set_option Elab.async false
set_option linter.all false
set_option maxRecDepth 100000
namespace DL
open PySem L2

/-! ## equality of data -/
mutual
def D.pd : D → PyData
  | .non => .none
  | .bl b => .bool b
  | .int i => .int i
  | .str x => .str x
  | .lst xs => .list (pdAll xs)
  | .tup xs => .tuple (pdAll xs)
  | .dic _ _ => .dict []
  | .obj _ _ _ => .dict []
  | .raw _ => .dict []
  | .kls xs => .list (pdAll xs)
  | .exc _ _ _ _ _ => .dict []
def pdAll : List D → List PyData
  | [] => []
  | x :: xs => x.pd :: pdAll xs
end
theorem rep_dp {K : PySem.W.Frag} {Hm H : Hp} (m : Mo Hm H) {v : V} {d : D} (h : Rep K Hm v d) : d.pd.canLay0 = true → Dp K H v d.pd :=
  Rep.rec (motive_1 := fun v d _ => d.pd.canLay0 = true → Dp K H v d.pd) (motive_2 := fun vs ds _ => PyData.canLayAll0 (pdAll ds) = true → DpAll K H vs (pdAll ds))
    (fun _ => .non) (fun b _ => .bl b) (fun i _ => .int i) (fun x _ => .str x) (fun v _ h => by simp [D.pd, PyData.canLay0] at h)
    (fun r _ ih h => .lst (.inl (rd_mono m r)) (ih (by simpa [D.pd, PyData.canLay0] using h))) (fun r _ ih h => .tup (sqT_mono m r) (ih (by simpa [D.pd, PyData.canLay0] using h)))
    (fun r _ ih h => by simp [D.pd, PyData.canLay0] at h) (fun r _ ih h => by simp [D.pd, PyData.canLay0] at h) (fun r _ ih h => .lst (.inr r) (ih (by simpa [D.pd, PyData.canLay0] using h))) (fun h => by simp [D.pd, PyData.canLay0] at h) (fun r _ ih h => by simp [D.pd, PyData.canLay0] at h) (fun _ => .nil)
    (fun _ _ i1 i2 h => by
      rw [pdAll, PyData.canLayAll0, Bool.and_eq_true] at h
      exact .cons (i1 h.1) (i2 h.2)) h
def D.eqv (x y : D) : Bool := PyData.eqv x.pd y.pd
def EqOk (d : D) : Prop := SeqAt.shaped d.pd = true
def eqD : O2 := fun x y k => EqOk x ∧ EqOk y ∧ k (.bl (D.eqv x y))
def neD : O2 := fun x y k => EqOk x ∧ EqOk y ∧ k (.bl (!D.eqv x y))
section
variable {X : Cx} {W : WW} {K : PySem.W.Frag}
theorem eq_s : OpS K (rEqD K) eqD := fun A H x y d e k Q tr rx ry q f => by
  obtain ⟨h1, h2, h3⟩ := q
  exact ⟨d.pd, e.pd, rep_dp hid_le rx (SeqAt.canLay_of_shaped h1), rep_dp hid_le ry (SeqAt.canLay_of_shaped h2), h1, h2, f _ _ H h3 (.refl H) (.bl _)⟩
theorem ne_s : OpS K (rNeD K) neD := fun A H x y d e k Q tr rx ry q f => by
  obtain ⟨h1, h2, h3⟩ := q
  exact ⟨d.pd, e.pd, rep_dp hid_le rx (SeqAt.canLay_of_shaped h1), rep_dp hid_le ry (SeqAt.canLay_of_shaped h2), h1, h2, f _ _ H h3 (.refl H) (.bl _)⟩
end

/-! ## isinstance -/
def D.ty : D → Value
  | .non => .type "NoneType"
  | .bl _ => .type "bool"
  | .int _ => .type "int"
  | .str _ => .type "str"
  | .lst _ => .type "list"
  | .tup _ => .type "tuple"
  | .dic _ _ => .type "dict"
  | .obj C _ _ => .ref C
  | .raw _ => .none
  | .kls _ => .type "list"
  | .exc _ _ _ _ _ => .none
/-- what isinstance asks of an own class -/
structure IsC (K : PySem.W.Frag) (C : Addr) : Prop where
  cl : Cls K C
  ha : PySem.W.findIn K (.ref C) "__class__" = some (some (.builtin "object.__class__"))
  hn : PySem.W.specialIn K (.builtin "object.__class__") "__get__" = some (some (.builtin "getset_descriptor.__get__"))
  htk : PySem.W.takesIn K (.builtin "object.__class__") = some true
  hm : PySem.W.mroIn K C (.type "object") = some true
section
variable {X : Cx} {W : WW} {K : PySem.W.Frag}
theorem rep_ty {H : Hp} {tys : List Value} (hI : ∀ C, Value.ref C ∈ tys → IsC K C) {v : V} {d : D} (h : Rep K H v d) (ht : d.ty ∈ tys) (hn : Value.none ∉ tys) : TyX K H v d.ty := by
  cases h with
  | non => exact .base .non
  | bl b => exact .base (.bl b)
  | int i => exact .base (.int i)
  | str x => exact .base (.str x)
  | raw v h => exact (hn ht).elim
  | lst r _ =>
    rcases r with r | ⟨o, r⟩
    · exact .base (.lst r)
    · exact .base (.frz r)
  | tup r _ =>
    rcases r with (r | ⟨o, r⟩) | r
    · exact .base (.tup r)
    · exact .fTuple r
    · obtain ⟨o, e, c⟩ : ∃ o, K.lookup _ = some o ∧ o.cls = .type "tuple" := by
        obtain ⟨o, its, n, e, c, _⟩ := r
        exact ⟨o, e, c⟩
      exact .kTuple e c
  | dic r _ =>
    rcases r with r | ⟨o, r⟩
    · exact .base (.dK r)
    · exact .fDict r
  | kls r _ =>
    obtain ⟨o, its, n, e, c, _⟩ := r
    exact .kList e c
  | excN => exact (hn ht).elim
  | exc r _ => exact (hn ht).elim
  | obj r _ =>
    have c := hI _ ht
    exact .base (.ins r c.cl c.ha c.hn c.htk c.hm)
/-- the type of the value is one of tys; it is one of yes or not -/
def isiD (tys yes : List Value) : O1 := fun d k => d.ty ∈ tys ∧ (d.ty ∈ yes → k (.bl true)) ∧ (d.ty ∉ yes → k (.bl false))
def isiL (c : V) (tys yes : List Value) : OL := fun ds k => match ds with | [d, .raw c'] => c' = c ∧ isiD tys yes d k | _ => False
theorem isiL_ex {c : V} {tys yes : List Value} : ∀ {ds : List D} {k : D → Prop}, isiL c tys yes ds k → ∃ d, ds = [d, .raw c] ∧ isiD tys yes d k
  | [d, .raw c'], _, h => by obtain ⟨rfl, h⟩ := h; exact ⟨d, rfl, h⟩
theorem isi_s {c : V} {u : Value} {tys yes : List Value} (hc : ClsV c u) (hI : ∀ C, Value.ref C ∈ tys → IsC K C) (hn : Value.none ∉ tys) (hy : ∀ t ∈ tys, PySem.W.kitOne K t u = some (decide (t ∈ yes))) : ClS K (rIsi K) (isiL c tys yes) := fun A H xs ds k Q tr r q f => by
  obtain ⟨d, rfl, h1, h2, h3⟩ := isiL_ex q
  cases r with
  | cons r1 r2 =>
    cases r2 with
    | cons r2 r3 =>
      cases r3
      cases r2
      refine ⟨_, c, d.ty, u, decide (d.ty ∈ yes), rfl, hc, rep_ty hI (r1.mono hid_le) h1 hn, hy _ h1, ?_⟩
      by_cases z : d.ty ∈ yes
      · rw [decide_eq_true z]; exact f _ _ H (h2 z) (.refl H) (.bl _)
      · rw [decide_eq_false z]; exact f _ _ H (h3 z) (.refl H) (.bl _)
theorem de_raw {e : Expr} {v : V} (h : PE X e (tC v)) (hr : isRaw v = true) : DE X W e (fun ρ Q _ => Q (.raw v) ρ) := ⟨_, h, fun fm H σ ρ Q R QV s q x k => k v H _ ρ q (.refl s) (.raw v hr)⟩
end

/-! ## built-ins -/
def lenD (d : D) (k : Nat → Prop) : Prop := match d with
  | .lst xs => k xs.length
  | .tup xs => k xs.length
  | .str x => x.length ≤ LIM ∧ k x.length
  | .kls xs => k xs.length
  | _ => False
def lenL : OL := fun ds k => match ds with | [d] => lenD d fun n => k (.int n) | _ => False
def intL : OL := fun ds k => match ds with | [.int i] => k (.int i) | [.bl b] => k (.int (if b then 1 else 0)) | _ => False
def absL : OL := fun ds k => match ds with | [.int i] => k (.int (if i < 0 then -i else i)) | _ => False
def maxL : OL := fun ds k => match ds with | [.int i, .int j] => k (.int (max i j)) | _ => False
def minL : OL := fun ds k => match ds with | [.int i, .int j] => k (.int (min i j)) | _ => False
def divmodL : OL := fun ds k => match ds with | [.int i, .int j] => CDiv i j ∧ k (.tup [.int (i / j), .int (i % j)]) | _ => False
def tupleL : OL := fun ds k => match ds with | [.lst xs] => k (.tup xs) | [.tup xs] => k (.tup xs) | _ => False
section
variable {X : Cx} {W : WW} {K : PySem.W.Frag}
theorem reps1 {H : Hp} {xs : List V} {d : D} (h : Reps K H xs [d]) : ∃ x, xs = [x] ∧ Rep K H x d := by
  cases h with
  | cons h1 h2 => cases h2; exact ⟨_, rfl, h1⟩
theorem reps2 {H : Hp} {xs : List V} {d e : D} (h : Reps K H xs [d, e]) : ∃ x y, xs = [x, y] ∧ Rep K H x d ∧ Rep K H y e := by
  cases h with
  | cons h1 h2 => cases h2 with
    | cons h2 h3 => cases h3; exact ⟨_, _, rfl, h1, h2⟩
theorem Rep.int_inv {H : Hp} {x : V} {i : Int} (h : Rep K H x (.int i)) : x = .int i := by cases h; rfl
theorem len_s : ClS K (fun xs H Q => ∃ x n, xs = [x] ∧ LenV K x H n ∧ Q (.int n) H) lenL := fun A H xs ds k Q tr r q f => by
  match ds, q with
  | [d], q =>
    obtain ⟨x, rfl, r1⟩ := reps1 r
    have r1 := r1.mono hid_le
    match d, q with
    | .lst zs, q =>
      obtain ⟨a, vs, rfl, h1, h2⟩ := r1.lst_inv
      exact ⟨_, zs.length, rfl, .inl ⟨vs, .inl h1, h2.length.symm⟩, f _ _ H q (.refl H) (.int _)⟩
    | .tup zs, q =>
      obtain ⟨a, vs, rfl, h1, h2⟩ := r1.tup_inv
      exact ⟨_, zs.length, rfl, .inr ⟨vs, h1, h2.length.symm⟩, f _ _ H q (.refl H) (.int _)⟩
    | .kls zs, q =>
      cases r1 with
      | kls h1 h2 => exact ⟨_, zs.length, rfl, .inl ⟨_, .inr h1, h2.length.symm⟩, f _ _ H q (.refl H) (.int _)⟩
    | .str z, q =>
      cases r1
      exact ⟨_, z.length, rfl, ⟨by rw [← lim]; exact q.1, rfl⟩, f _ _ H q.2 (.refl H) (.int _)⟩
theorem int_s : ClS K (fun xs H Q => (∃ i, xs = [.int i] ∧ Q (.int i) H) ∨ ∃ k, xs = [.bl k] ∧ Q (.int (if k then 1 else 0)) H) intL := fun A H xs ds k Q tr r q f => by
  match ds, q with
  | [.int i], q =>
    obtain ⟨x, rfl, r1⟩ := reps1 r
    cases r1
    exact .inl ⟨i, rfl, f _ _ H q (.refl H) (.int _)⟩
  | [.bl b], q =>
    obtain ⟨x, rfl, r1⟩ := reps1 r
    cases r1
    exact .inr ⟨b, rfl, f _ _ H q (.refl H) (.int _)⟩
theorem abs_s : ClS K (fun xs H Q => ∃ i, xs = [.int i] ∧ Q (.int (if i < 0 then -i else i)) H) absL := fun A H xs ds k Q tr r q f => by
  match ds, q with
  | [.int i], q =>
    obtain ⟨x, rfl, r1⟩ := reps1 r
    cases r1
    exact ⟨i, rfl, f _ _ H q (.refl H) (.int _)⟩
theorem max_s : ClS K (fun xs H Q => ∃ i j, xs = [.int i, .int j] ∧ Q (.int (if j > i then j else i)) H) maxL := fun A H xs ds k Q tr r q f => by
  match ds, q with
  | [.int i, .int j], q =>
    obtain ⟨x, y, rfl, r1, r2⟩ := reps2 r
    cases r1; cases r2
    refine ⟨i, j, rfl, f _ _ H q (.refl H) ?_⟩
    have e : (if j > i then j else i) = max i j := by split <;> omega
    rw [e]; exact .int _
theorem min_s : ClS K (fun xs H Q => ∃ i j, xs = [.int i, .int j] ∧ Q (.int (if j < i then j else i)) H) minL := fun A H xs ds k Q tr r q f => by
  match ds, q with
  | [.int i, .int j], q =>
    obtain ⟨x, y, rfl, r1, r2⟩ := reps2 r
    cases r1; cases r2
    refine ⟨i, j, rfl, f _ _ H q (.refl H) ?_⟩
    have e : (if j < i then j else i) = min i j := by split <;> omega
    rw [e]; exact .int _
theorem divmod_s : ClS K (fun xs H Q => ∃ i j, xs = [.int i, .int j] ∧ CDiv i j ∧ ∀ p, H p = none → Q (.ref p) (upd H p (.tup [.int (i / j), .int (i % j)]))) divmodL := fun A H xs ds k Q tr r q f => by
  match ds, q with
  | [.int i, .int j], q =>
    obtain ⟨x, y, rfl, r1, r2⟩ := reps2 r
    cases r1; cases r2
    refine ⟨i, j, rfl, q.1, fun p hp => f _ _ _ q.2 (.one hp (fun _ _ _ z => by cases z)) (.tup (.inl (.inl ?_)) (.cons (.int _) (.cons (.int _) .nil)))⟩
    exact (hide_out fun z => tr p z hp).trans upd_same
theorem tuple_s : ClS K (fun xs H Q => ∃ p ys, xs = [.ref p] ∧ ((SqL K H p ys ∧ ∀ l, H l = none → Q (.ref l) (upd H l (.tup ys))) ∨ (SqT K H p ys ∧ Q (.ref p) H))) tupleL := fun A H xs ds k Q tr r q f => by
  match ds, q with
  | [.lst zs], q =>
    obtain ⟨x, rfl, r1⟩ := reps1 r
    obtain ⟨a, vs, rfl, h1, h2⟩ := r1.lst_inv
    refine ⟨a, vs, rfl, .inl ⟨.inl (rd_mono hid_le h1), fun p hp => f _ _ _ q (.one hp (fun _ _ _ z => by cases z)) (.tup (.inl (.inl ?_)) (reps_up hp h2))⟩⟩
    exact (hide_out fun z => tr p z hp).trans upd_same
  | [.tup zs], q =>
    obtain ⟨x, rfl, r1⟩ := reps1 r
    obtain ⟨a, vs, rfl, h1, h2⟩ := r1.tup_inv
    exact ⟨a, vs, rfl, .inr ⟨sqT_mono hid_le h1, f _ _ H q (.refl H) (.tup h1 h2)⟩⟩
/-- list(x): a new list -/
def wListOf (a : WE) : WO := fun ρ Q R => a ρ (fun d ρ1 => seqOf d fun xs => Q (.lst xs) ρ1) R
theorem do_listOf {x : Str} {p pos : Pos} {e : Expr} {a : WE} (hg : Gl X x) (hm : X.mg x = none) (hv : bootBuiltins x = some (.type "list")) (ha : DE X W e a) (hn : x ≠ "__name__" := by decide) (hdb : (x == ("__debug__" : Str)) = false := by decide)
    (he : starEach [e] X.env = (false, eval e X.env) :: starEach [] X.env := by rfl) (hpl : (backTo pos (starEach [] X.env)).any (·.1) = false := by rfl) : DO X W (.Call (.Name x p) [e] [] pos) (wListOf a) := by
  obtain ⟨t, pt, l⟩ := ha.ex
  refine ⟨_, pe_callTy call_list_of hg hm hv (pa_cons pt pa_nil he) hn hdb he hpl, fun fm H σ ρ Q R QV s q x k => l fm H σ ρ _ R _ s q x fun v H1 d ρ1 q1 g1 r1 => ?_⟩
  cases d <;> first | exact q1.elim | skip
  · obtain ⟨a, vs, rfl, h1, h2⟩ := r1.lst_inv
    exact ⟨a, vs, rfl, .inl (.inl (rd_mono hid_le h1)), fun p hp => k p _ _ ρ1 q1 (.of g1 (new_lst g1.rs hp h2))⟩
  · obtain ⟨a, vs, rfl, h1, h2⟩ := r1.tup_inv
    exact ⟨a, vs, rfl, .inr (sqT_mono hid_le h1), fun p hp => k p _ _ ρ1 q1 (.of g1 (new_lst g1.rs hp h2))⟩
/-! is None -/
def isNonD (b : Bool) : O2 := fun d e k => match e with | .non => (match d with | .non => k (.bl b) | .raw _ => False | _ => k (.bl (!b))) | _ => False
theorem isN_s : OpS K (fun x y H Q => y = .non ∧ Q (.bl (decide (x = .non))) H) (isNonD true) := fun A H x y d e k Q tr rx ry q f => by
  cases e <;> first | exact q.elim | skip
  cases ry
  refine ⟨rfl, ?_⟩
  cases rx <;> first | exact f _ _ H q (.refl H) (.bl _) | exact q.elim
theorem notN_s : OpS K (fun x y H Q => y = .non ∧ Q (.bl (!decide (x = .non))) H) (isNonD false) := fun A H x y d e k Q tr rx ry q f => by
  cases e <;> first | exact q.elim | skip
  cases ry
  refine ⟨rfl, ?_⟩
  cases rx <;> first | exact f _ _ H q (.refl H) (.bl _) | exact q.elim
/-! a < b < c -/
def wChain (o o' : O2) (a b c : WE) : WE := fun ρ Q R => a ρ (fun x ρ1 => b ρ1 (fun y ρ2 => o x y fun z => blOf z fun t => (t = true → c ρ2 (fun w ρ3 => o' y w fun z' => Q z' ρ3) R) ∧ (t = false → Q (.bl false) ρ2)) R) R
theorem le_chain {r r' : R2} {o o' : O2} {ta tb tc : TE} {a b c : WE} (h : OpS K r o) (h' : OpS K r' o') (ha : LE K W ta a) (hb : LE K W tb b) (hc : LE K W tc c) : LE K W (tChain r r' ta tb tc) (wChain o o' a b c) := fun fm H σ ρ Q R QV s q x k =>
  ha fm H σ ρ _ R _ s q x fun v H1 d ρ1 q1 g1 r1 => hb fm H1 σ ρ1 _ R _ g1.rs q1 (x.to g1) fun u H2 e ρ2 q2 g2 r2 => by
    have g12 := g1.trans g2
    refine h _ H2 v u d e _ _ g12.rs.trk (g2.go.rep r1) r2 q2 fun z dz H3 qz al rz => ?_
    cases dz <;> first | exact qz.elim | skip
    rename_i t
    cases rz
    have g3 := g12.alc al
    refine ⟨t, rfl, ?_⟩
    cases t with
    | true =>
      rw [if_pos rfl]
      refine hc fm H3 σ ρ2 _ R _ g3.rs (qz.1 rfl) (x.to g3) fun w H4 dw ρ3 q3 g4 r4 => ?_
      have g34 := g3.trans g4
      exact h' _ H4 u w e dw _ _ g34.rs.trk (g4.go.rep (r2.mono (al.hid))) r4 q3 fun z' dz' H5 qz' al' rz' => k z' H5 dz' ρ3 qz' (g34.alc al') rz'
    | false => rw [if_neg (by decide)]; exact k _ H3 _ ρ2 (qz.2 rfl) g3 (.bl _)
theorem de_chain {op op' : CmpOp} {r r' : R2} {o o' : O2} {a b c : Expr} {wa wb wc : WE} {pos : Pos} (ho : OpR X (compareOp op) r) (ho' : OpR X (compareOp op') r') (hs : OpS X.K r o) (hs' : OpS X.K r' o') (ha : DE X W a wa) (hb : DE X W b wb) (hc : DE X W c wc)
    (hm : lastMarks [op, op'] [b, c] = false := by with_unfolding_all rfl) : DE X W (.Compare a [op, op'] [b, c] pos) (wChain o o' wa wb wc) := by
  obtain ⟨ta, pa, la⟩ := ha.ex
  obtain ⟨tb, pb, lb⟩ := hb.ex
  obtain ⟨tc, pc, lc⟩ := hc.ex
  exact ⟨_, pe_chain ho ho' pa pb pc hm, le_chain hs hs' la lb lc⟩
theorem dt_chain {op op' : CmpOp} {r r' : R2} {o o' : O2} {a b c : Expr} {wa wb wc : WE} {pos : Pos} (ho : OpR X (compareOp op) r) (ho' : OpR X (compareOp op') r') (hs : OpS X.K r o) (hs' : OpS X.K r' o') (ha : DE X W a wa) (hb : DE X W b wb) (hc : DE X W c wc)
    (hm : lastMarks [op, op'] [b, c] = false := by with_unfolding_all rfl) : DT X W (.Compare a [op, op'] [b, c] pos) (wTest (wChain o o' wa wb wc)) := by
  obtain ⟨ta, pa, la⟩ := ha.ex
  obtain ⟨tb, pb, lb⟩ := hb.ex
  obtain ⟨tc, pc, lc⟩ := hc.ex
  exact ⟨_, pt_chain ho ho' pa pb pc hm, lt_test (le_chain hs hs' la lb lc)⟩
/-! what is never reached -/
theorem ds_dead {st : Stmt} : DS X W st (fun _ _ => False) := ⟨fun _ _ _ => False, ⟨fun _ _ _ _ _ _ h => h.elim⟩, fun fm H σ ρ k D r hf q e => q.elim⟩
theorem de_dead {e : Expr} : DE X W e (fun _ _ _ => False) := ⟨fun _ _ _ => False, ⟨fun _ _ _ _ _ _ h => h.elim⟩, fun fm H σ ρ Q R QV r q x k => q.elim⟩
theorem do_dead {e : Expr} : DO X W e (fun _ _ _ => False) := ⟨fun _ _ _ => False, ⟨fun _ _ _ _ _ _ h => h.elim⟩, fun fm H σ ρ Q R QV r q x k => q.elim⟩
theorem dt_dead {e : Expr} : DT X W e (fun _ _ _ => False) := ⟨fun _ _ _ => False, ⟨fun _ _ _ _ _ _ h => h.elim⟩, fun fm H σ ρ Q R QV r q x k => q.elim⟩
end
/-! ## calls with defaults -/
def wrDef (ds : List D) (a : WAr) : WAr := fun ρ Q R => a ρ (fun as ρ1 => Q (as ++ ds.map Ar.v) ρ1) R
theorem arOk_append {K : PySem.W.Frag} {Hm : Hp} {σ : St} {us : List V} {ds : List D} (h : Reps K Hm us ds) : ∀ {vs : List V} {as : List Ar}, ArOk K Hm σ vs as → ArOk K Hm σ (vs ++ us) (as ++ ds.map Ar.v)
  | [], [], _ => by
    show ArOk K Hm σ us (ds.map Ar.v)
    induction us generalizing ds with
    | nil => cases h; trivial
    | cons u us ih => cases h with | cons h1 h2 => exact ⟨h1, ih h2⟩
  | v :: vs, .v d :: as, q => ⟨q.1, arOk_append h q.2⟩
  | v :: vs, .o i :: as, q => ⟨q.1, arOk_append h q.2⟩
  | [], _ :: _, q => q.elim
  | _ :: _, [], q => q.elim
section
variable {K : PySem.W.Frag}
theorem le_callRD {W : WW} {sp : SpD} {t : TA} {a : WAr} {dvs : List V} {ds : List D} (hd : ∀ H, Reps K H dvs ds) (mo : MonoSp sp) (ha : LAr K W t a) : LE K W (tCallF (spOf K sp) dvs W.x t) (wCallR sp (wrDef ds a)) := fun fm H σ ρ Q R QV s q x k =>
  ha fm H σ ρ _ R _ s q x fun vs H1 as ρ1 q1 g1 r1 =>
    call_core mo g1.rs (arOk_append (hd _) r1) (k1 := Q) (k2 := fun o ρ' => Q o.toD ρ') (fun r ρ' => r.asD fun d => Q d ρ') (fun r ρ' h => by cases r <;> exact h) (fun v H' d ρ' q' g' rv => k v H' d ρ' q' (g1.trans g') rv)
      (fun p H' o ρ' q' n => k _ H' _ ρ' q' (g1.trans n.to) (own_rep (B := ownAs p o) n.oa (n.rs.notin (mem_ownAs p o)))) q1 (x.to g1)
end
section
variable {X : Cx} {W : WW} {f : Addr} {fd : FuncData} {k : Nat} {x : Str} {e : Expr} {es : List Expr} {ps : List Str} {sp : SpD} {a : WAr} {p pos : Pos}
theorem de_callRD {dvs : List V} {ds : List D} {vals : List Value} (F : FnOk X.prog X.w X.K X.mg X.base (L2.CX X.prog X.w) k f fd ps (spOf X.K sp)) (mo : MonoSp sp) (hr : Room k X.A) (hg : Gl X x) (hm : X.mg x = some (.ref f)) (hk : PySem.W.keepIn X.K (.ref f) = true) (hb : Binds X.K fd ps vals) (hv : Vals dvs vals) (hd : ∀ H, Reps X.K H dvs ds) (tk : Takes X W.x)
    (ha : DR X W (e :: es) a) (hdb : (x == ("__debug__" : Str)) = false := by decide) (he : starEach (e :: es) X.env = (false, eval e X.env) :: starEach es X.env := by rfl) (hpl : (backTo pos (starEach es X.env)).any (·.1) = false := by rfl) :
    DE X W (.Call (.Name x p) (e :: es) [] pos) (wCallR sp (wrDef ds a)) := by
  obtain ⟨t, p1, l⟩ := ha.ex
  exact ⟨_, pe_callF F hr hg hm hk hb hv tk p1 hdb he hpl, le_callRD hd mo l⟩
end
end DL

set_option Elab.async false
set_option linter.all false
set_option maxRecDepth 100000
namespace DL
open PySem L2

/-! ## several results at once, own ones among them -/
structure NewA (K : PySem.W.Frag) (fm : Fm) (σ : St) (H : Hp) (ρ : Env) (H' : Hp) (ρ' : Env) (vs : List V) (ss : List Sl) : Prop where
  to : To K fm σ H ρ H' ρ'
  rs : RS K (fm.ex (owned (vs.map some) ss)) H' σ ρ'
  sl : ∀ j, SlotOk K (hide (owned (vs.map some) ss ++ (fm.E ++ owned σ ρ')) H') H' ((vs.map some).getD j none) (Env.at ss j)
  noi : ∀ j, noIns (Env.at ss j)
  len : vs.length = ss.length
  mo : Mo (fm.hid σ ρ H) (hide (owned (vs.map some) ss ++ (fm.E ++ owned σ ρ')) H')
abbrev WN := Env → (List Sl → Env → Prop) → KR → Prop
def LN (K : PySem.W.Frag) (W : WW) (t : TA) (w : WN) : Prop :=
  ∀ (fm : Fm) (H : Hp) (σ : St) (ρ : Env) (Q : List Sl → Env → Prop) (R : KR) (QV : List V → Hp → Prop), RS K fm H σ ρ → w ρ Q R → XOk K W fm σ H ρ R →
    (∀ vs H' ss ρ', Q ss ρ' → NewA K fm σ H ρ H' ρ' vs ss → QV vs H') → t σ H QV
structure DN (X : Cx) (W : WW) (es : List Expr) (w : WN) : Prop where
  ex : ∃ t, PA X es t ∧ LN X.K W t w
def wnNil : WN := fun ρ Q _ => Q [] ρ
def wnV (a : WE) (r : WN) : WN := fun ρ Q R => a ρ (fun d ρ1 => r ρ1 (fun ss ρ2 => Q (.v d :: ss) ρ2) R) R
def wnO (a : WO) (r : WN) : WN := fun ρ Q R => a ρ (fun o ρ1 => noInsO o ∧ r ρ1 (fun ss ρ2 => Q (.own o :: ss) ρ2) R) R
theorem own_kept {K : PySem.W.Frag} {fm : Fm} {p : Addr} {o : OD} {H H' : Hp} {σ : St} {ρ ρ' : Env} (ni : noInsO o) (r : RS K (fm.ex (ownAs p o)) H σ ρ) (oa : OwnAt K (hide (ownAs p o ++ (fm.E ++ owned σ ρ)) H) H p o) (g : Go σ H ρ H' ρ') : H' p = H p ∧ ∃ u, H p = some u := by
  have n : p ∉ owned σ ρ := fun z => r.notin (mem_ownAs p o) (List.mem_append_right _ z)
  have k : ∃ u, H p = some u := (OwnAt.kind ni oa).elim (fun ⟨vs, q⟩ => ⟨_, q⟩) fun ⟨vs, q⟩ => ⟨_, q⟩
  obtain ⟨u, hu⟩ := k
  exact ⟨(g.fr p u hu n).trans hu.symm, u, hu⟩
section
variable {X : Cx} {W : WW} {K : PySem.W.Frag}
theorem ln_nil : LN K W tNil wnNil := fun fm H σ ρ Q R QV s q x k => k [] H [] ρ q ⟨.refl s, s, fun j => slot_no .., fun j => trivial, rfl, fun _ _ z => z⟩
theorem ln_v {te : TE} {t : TA} {a : WE} {r : WN} (ha : LE K W te a) (hr : LN K W t r) : LN K W (tCons te t) (wnV a r) := fun fm H σ ρ Q R QV s q x k =>
  ha fm H σ ρ _ R _ s q x fun v H1 d ρ1 q1 g1 r1 => hr fm H1 σ ρ1 _ R _ g1.rs q1 (x.to g1) fun vs H2 ss ρ2 q2 n => by
    have e : owned ((v :: vs).map some) (.v d :: ss) = owned (vs.map some) ss := by
      show slotAs (some v) (.v d) ++ owned (vs.map some) ss = _
      rw [slotAs_v]; rfl
    refine k (v :: vs) H2 (.v d :: ss) ρ2 q2 ⟨g1.trans n.to, by rw [e]; exact n.rs, fun j => ?_, fun j => ?_, congrArg Nat.succ n.len, by rw [e]; exact fun b o z => n.mo b o (g1.go.sub b o z)⟩
    · rw [e]
      cases j with
      | zero => exact r1.mono n.mo
      | succ j => exact n.sl j
    · cases j with
      | zero => trivial
      | succ j => exact n.noi j
theorem ln_o {te : TE} {t : TA} {a : WO} {r : WN} (ha : LO K W te a) (hr : LN K W t r) : LN K W (tCons te t) (wnO a r) := fun fm H σ ρ Q R QV s q x k =>
  ha fm H σ ρ _ R _ s q x fun p H1 o ρ1 q1 n1 => by
    obtain ⟨ni, q1⟩ := q1
    have weak : ∀ {H' : Hp} {ρ' : Env}, To K (fm.ex (ownAs p o)) σ H1 ρ1 H' ρ' → To K fm σ H1 ρ1 H' ρ' := fun {H' ρ'} t' => by
      obtain ⟨e, u, hu⟩ := own_kept ni n1.rs n1.oa t'.go
      refine ⟨t'.rs.ex_weak ni ?_, t'.go⟩
      rw [e]; exact OwnAt.kind ni n1.oa
    have x1 : XOk K W (fm.ex (ownAs p o)) σ H1 ρ1 R := ⟨x.io, fun ex ρ' H' cls dd rr t' er => x.ok ex ρ' H' cls dd rr (n1.to.trans (weak t')) (exr_up (fun b u z => by
      obtain ⟨m, z⟩ := hide_some z
      refine (hide_out fun w => m ?_).trans z
      rw [show (fm.ex (ownAs p o)).E ++ owned σ ρ' = ownAs p o ++ (fm.E ++ owned σ ρ') from List.append_assoc ..]
      exact List.mem_append_right _ w) (fun _ _ z => z) er)⟩
    refine hr (fm.ex (ownAs p o)) H1 σ ρ1 _ R _ n1.rs q1 x1 fun vs H2 ss ρ2 q2 n => ?_
    have e : owned ((V.ref p :: vs).map some) (.own o :: ss) = ownAs p o ++ owned (vs.map some) ss := rfl
    have pm : (((fm.ex (ownAs p o)).ex (owned (vs.map some) ss)).E).Perm ((fm.ex (ownAs p o ++ owned (vs.map some) ss)).E) := by
      show (owned (vs.map some) ss ++ (ownAs p o ++ fm.E)).Perm ((ownAs p o ++ owned (vs.map some) ss) ++ fm.E)
      rw [← List.append_assoc]
      exact List.Perm.append_right _ List.perm_append_comm
    have hm : hide (owned (vs.map some) ss ++ ((fm.ex (ownAs p o)).E ++ owned σ ρ2)) H2 = hide ((ownAs p o ++ owned (vs.map some) ss) ++ (fm.E ++ owned σ ρ2)) H2 := by
      refine hide_congr (fun b => ?_) H2
      simp only [List.mem_append]
      constructor
      · rintro (h | (h | h) | h)
        · exact .inl (.inr h)
        · exact .inl (.inl h)
        · exact .inr (.inl h)
        · exact .inr (.inr h)
      · rintro ((h | h) | h | h)
        · exact .inr (.inl (.inl h))
        · exact .inl h
        · exact .inr (.inl (.inr h))
        · exact .inr (.inr h)
    obtain ⟨ek, u, hu⟩ := own_kept ni n1.rs n1.oa n.to.go
    have moP : ∀ b x, hide (ownAs p o ++ (fm.E ++ owned σ ρ1)) H1 b = some x → hide ((ownAs p o ++ owned (vs.map some) ss) ++ (fm.E ++ owned σ ρ2)) H2 b = some x := fun b x z => by
      rw [← hm]
      refine n.mo b x ?_
      rw [show (fm.ex (ownAs p o)).hid σ ρ1 H1 = hide (ownAs p o ++ (fm.E ++ owned σ ρ1)) H1 from congrArg (hide · H1) (List.append_assoc ..)]
      exact z
    refine k (.ref p :: vs) H2 (.own o :: ss) ρ2 q2 ⟨n1.to.trans (weak n.to), by rw [e]; exact n.rs.permE pm, fun j => ?_, fun j => ?_, congrArg Nat.succ n.len, fun b x z => ?_⟩
    · rw [e]
      cases j with
      | zero =>
        show OwnAt K _ H2 p o
        have oa := n1.oa
        cases o with
        | lst ds => obtain ⟨us, h1, h2⟩ := oa; exact ⟨us, ek.trans h1, h2.mono moP⟩
        | dic ks ds => obtain ⟨us, h1, h2, h3⟩ := oa; exact ⟨us, ek.trans h1, h2, h3.mono moP⟩
        | ins C dx ns ds => exact ni.elim
      | succ j => rw [← hm]; exact n.sl j
    · cases j with
      | zero => cases o with
        | ins C dx ns ds => exact ni.elim
        | _ => trivial
      | succ j => exact n.noi j
    · rw [e]
      refine moP b x ?_
      have := n1.mo b x z
      rw [show (fm.ex (ownAs p o)).hid σ ρ1 H1 = hide (ownAs p o ++ (fm.E ++ owned σ ρ1)) H1 from congrArg (hide · H1) (List.append_assoc ..)] at this
      exact this
theorem dn_nil : DN X W [] wnNil := ⟨_, pa_nil, ln_nil⟩
theorem dn_v {e : Expr} {es : List Expr} {a : WE} {r : WN} (ha : DE X W e a) (hr : DN X W es r) (hs : starEach (e :: es) X.env = (false, eval e X.env) :: starEach es X.env := by rfl) : DN X W (e :: es) (wnV a r) := by
  obtain ⟨ta, pa, la⟩ := ha.ex; obtain ⟨tb, pb, lb⟩ := hr.ex
  exact ⟨_, pa_cons pa pb hs, ln_v la lb⟩
theorem dn_o {e : Expr} {es : List Expr} {a : WO} {r : WN} (ha : DO X W e a) (hr : DN X W es r) (hs : starEach (e :: es) X.env = (false, eval e X.env) :: starEach es X.env := by rfl) : DN X W (e :: es) (wnO a r) := by
  obtain ⟨ta, pa, la⟩ := ha.ex; obtain ⟨tb, pb, lb⟩ := hr.ex
  exact ⟨_, pa_cons pa pb hs, ln_o la lb⟩
/-! putting them into slots -/
def parK : List Nat → List Sl → Env → (Env → Prop) → Prop
  | [], [], ρ, k => k ρ
  | i :: is, s :: ss, ρ, k => putK ρ i s fun ρ' => parK is ss ρ' k
  | _, _, _, _ => False
def setAll : List Nat → List V → St → St
  | i :: is, v :: vs, σ => setAll is vs (σ.set i (some v))
  | _, _, σ => σ
theorem par_put {H : Hp} : ∀ {is : List Nat} {vs : List V} {ss : List Sl} {fm : Fm} {σ : St} {ρ : Env} {k : Env → Prop}, (∀ i ∈ is, ∀ p ∈ fm.F, p.1 ≠ i) → vs.length = is.length → RS K (fm.ex (owned (vs.map some) ss)) H σ ρ →
    (∀ j, SlotOk K (hide (owned (vs.map some) ss ++ (fm.E ++ owned σ ρ)) H) H ((vs.map some).getD j none) (Env.at ss j)) → (∀ j, noIns (Env.at ss j)) → parK is ss ρ k → ∃ ρ', k ρ' ∧ RS K fm H (setAll is vs σ) ρ' ∧ Mo (hide (owned (vs.map some) ss ++ (fm.E ++ owned σ ρ)) H) (fm.hid (setAll is vs σ) ρ' H)
  | [], vs, ss, fm, σ, ρ, k, hF, hl, r, sl, n, q => by
    cases vs with
    | cons _ _ => simp at hl
    | nil => cases ss with
      | nil => exact ⟨ρ, q, r, fun _ _ z => z⟩
      | cons _ _ => exact q.elim
  | i :: is, vs, ss, fm, σ, ρ, k, hF, hl, r, sl, n, q => by
    cases vs with
    | nil => simp at hl
    | cons v vs =>
      cases ss with
      | nil => exact q.elim
      | cons s ss =>
        obtain ⟨h1, h2, q⟩ := putK_spec q
        have e : owned ((v :: vs).map some) (s :: ss) = slotAs (some v) s ++ owned (vs.map some) ss := rfl
        rw [e] at r sl
        have r' : RS K ((fm.ex (owned (vs.map some) ss)).ex (slotAs (some v) s)) H σ ρ := by
          have : (fm.ex (owned (vs.map some) ss)).ex (slotAs (some v) s) = fm.ex (slotAs (some v) s ++ owned (vs.map some) ss) := by
            show Fm.mk _ _ _ = Fm.mk _ _ _
            congr 1
            exact (List.append_assoc ..).symm
          rw [this]; exact r
        have hm : ((fm.ex (owned (vs.map some) ss)).ex (slotAs (some v) s)).hid σ ρ H = hide ((slotAs (some v) s ++ owned (vs.map some) ss) ++ (fm.E ++ owned σ ρ)) H := by
          show hide ((slotAs (some v) s ++ (owned (vs.map some) ss ++ fm.E)) ++ owned σ ρ) H = _
          rw [← List.append_assoc (as := slotAs (some v) s), List.append_assoc (bs := fm.E)]
        have s0 : SlotOk K (hide ((slotAs (some v) s ++ owned (vs.map some) ss) ++ (fm.E ++ owned σ ρ)) H) H (some v) s := sl 0
        have flat : ∀ a ∈ slotAs (some v) s, ∀ C dx fs, H a ≠ some (.ins C dx fs) := fun a ha => by
          cases s with
          | no => rw [slotAs_no] at ha; cases ha
          | v d => rw [slotAs_v] at ha; cases ha
          | own o =>
            cases v with
            | ref p => exact (flat_own (by have := n 0; cases o <;> first | exact this | trivial) s0 a ha).1
            | _ => exact s0.elim
        have rp := RS.put_core (i := i) (x := some v) (s := s) r' h1 (fun p hp => by
          rw [List.getElem?_set_ne (fun z => hF i List.mem_cons_self p hp z.symm)]
          exact r.fx p hp) h2 flat (by rw [hm]; exact s0)
        have up := put_mo (fm := fm.ex (owned (vs.map some) ss)) (H := H) (x := some v) (s := s) r.len h1
        rw [hm] at up
        have up' : Mo (hide ((slotAs (some v) s ++ owned (vs.map some) ss) ++ (fm.E ++ owned σ ρ)) H) (hide (owned (vs.map some) ss ++ (fm.E ++ owned (σ.set i (some v)) (Env.put ρ i s))) H) := fun b u z => by
          have := up b u z
          rw [show (fm.ex (owned (vs.map some) ss)).hid (σ.set i (some v)) (Env.put ρ i s) H = hide (owned (vs.map some) ss ++ (fm.E ++ owned (σ.set i (some v)) (Env.put ρ i s))) H from congrArg (hide · H) (List.append_assoc ..)] at this
          exact this
        obtain ⟨ρ', k', r2, m2⟩ := par_put (is := is) (fun i hi => hF i (List.mem_cons_of_mem _ hi)) (by simpa using hl) rp (fun j => slotOk_up up' (sl (j + 1))) (fun j => n (j + 1)) q
        exact ⟨ρ', k', r2, fun b u z => m2 b u (up' b u z)⟩
def sPar (is : List Nat) (a : WN) : WS := fun ρ k => a ρ (fun ss ρ1 => ss.length = is.length ∧ parK is ss ρ1 k.nx) k.ex
theorem ds_par {i j : Nat} {x y : Str} {a b : Expr} {w : WN} {px py pt pos : Pos} {kt k2 pt2} (hc : X.calm = true) (hN : X.N.Nodup) (hi : X.N[i]? = some x) (hj : X.N[j]? = some y) (hij : i ≠ j) (hio : i ∉ W.io) (hjo : j ∉ W.io)
    (hx : X.env.scope.names.lookup x = some .local) (hy : X.env.scope.names.lookup y = some .local) (ha : DN X W [a, b] w)
    (hw : swappedStores [.Tuple [.Name x px, .Name y py] kt pt] (.Tuple [a, b] k2 pt2) X.env = pure (some [x, y]) := by rfl) : DS X W (.Assign [.Tuple [.Name x px, .Name y py] kt pt] (.Tuple [a, b] k2 pt2) pos) (sPar [i, j] w) := by
  obtain ⟨t, p, l⟩ := ha.ex
  refine ⟨_, ps_par hc hN hi hj hij hx hy p hw, fun fm H σ ρ k D r hf q e => l fm H σ ρ _ k.ex _ r q (e.xok hf) fun vs H1 ss ρ1 q1 n => ?_⟩
  obtain ⟨ρ', k', r2, m2⟩ := par_put (is := [i, j]) (fun l hl => by
    rcases List.mem_cons.mp hl with rfl | hl
    · exact io_ne hf hio
    · obtain rfl := List.mem_singleton.mp hl; exact io_ne hf hjo) (n.len.trans q1.1) n.rs n.sl n.noi q1.2
  have hl : vs.length = 2 := n.len.trans q1.1
  match vs, hl with
  | [v, w], _ => exact ⟨v, w, rfl, e.nx _ H1 ρ' k' r2 fun b o z => m2 b o (n.mo b o z)⟩
theorem ds_par3 {i j m : Nat} {x y z : Str} {a b c : Expr} {w : WN} {px py pz pt pos : Pos} {kt k2 pt2} (hc : X.calm = true) (hN : X.N.Nodup) (hi : X.N[i]? = some x) (hj : X.N[j]? = some y) (hm : X.N[m]? = some z) (hij : i ≠ j) (him : i ≠ m) (hjm : j ≠ m) (hio : i ∉ W.io) (hjo : j ∉ W.io) (hmo : m ∉ W.io)
    (hx : X.env.scope.names.lookup x = some .local) (hy : X.env.scope.names.lookup y = some .local) (hz : X.env.scope.names.lookup z = some .local) (ha : DN X W [a, b, c] w)
    (hw : swappedStores [.Tuple [.Name x px, .Name y py, .Name z pz] kt pt] (.Tuple [a, b, c] k2 pt2) X.env = pure (some [x, y, z]) := by rfl) : DS X W (.Assign [.Tuple [.Name x px, .Name y py, .Name z pz] kt pt] (.Tuple [a, b, c] k2 pt2) pos) (sPar [i, j, m] w) := by
  obtain ⟨t, p, l⟩ := ha.ex
  refine ⟨_, ps_par3 hc hN hi hj hm hij him hjm hx hy hz p hw, fun fm H σ ρ k D r hf q e => l fm H σ ρ _ k.ex _ r q (e.xok hf) fun vs H1 ss ρ1 q1 n => ?_⟩
  obtain ⟨ρ', k', r2, m2⟩ := par_put (is := [i, j, m]) (fun l hl => by
    rcases List.mem_cons.mp hl with rfl | hl
    · exact io_ne hf hio
    · rcases List.mem_cons.mp hl with rfl | hl
      · exact io_ne hf hjo
      · obtain rfl := List.mem_singleton.mp hl; exact io_ne hf hmo) (n.len.trans q1.1) n.rs n.sl n.noi q1.2
  have hl : vs.length = 3 := n.len.trans q1.1
  match vs, hl with
  | [u, v, w], _ => exact ⟨u, v, w, rfl, e.nx _ H1 ρ' k' r2 fun b o z => m2 b o (n.mo b o z)⟩
/-! ## isinstance(x, (..)) -/
def tCs : List V → TA
  | [] => tNil
  | c :: cs => tCons (tC c) (tCs cs)
theorem tCs_run : ∀ (cs : List V) (σ : St) (H : Hp) (Q : List V → Hp → Prop), Q cs H → tCs cs σ H Q
  | [], σ, H, Q, h => h
  | c :: cs, σ, H, Q, h => tCs_run cs σ H (fun xs H' => Q (c :: xs) H') h
theorem kit_any {us : List Value} {t : Value} {b : List Value → Bool} {fs : Value → Bool} (h : ∀ u ∈ us, PySem.W.kitOne K t u = some (fs u)) : PySem.W.kitAny K t us = some (us.any fs) := by
  induction us with
  | nil => rfl
  | cons u us ih =>
    show (match PySem.W.kitOne K t u with | some true => some true | some false => PySem.W.kitAny K t us | none => none) = _
    rw [h u List.mem_cons_self, List.any_cons]
    cases e : fs u with
    | true => rfl
    | false => rw [Bool.false_or]; exact ih fun u hu => h u (List.mem_cons_of_mem _ hu)
def wIsi (tys yes : List Value) (a : WE) : WE := fun ρ Q R => a ρ (fun d ρ1 => isiD tys yes d fun z => Q z ρ1) R
theorem de_isiT {e : Expr} {es : List Expr} {a : WE} {p p2 pos : Pos} {x1} {cs : List V} {us tys yes : List Value} (hg : Gl X "isinstance") (hm : X.mg "isinstance" = none) (ha : DE X W e a) (hcs : PA X es (tCs cs)) (hc : Paired ClsV cs us) (hlen : cs.length ≤ sizeLine) (hI : ∀ C, Value.ref C ∈ tys → IsC X.K C) (hn : Value.none ∉ tys)
    (hy : ∀ t ∈ tys, PySem.W.kitAny X.K t us = some (decide (t ∈ yes))) (he : starEach [e, .Tuple es x1 p2] X.env = (false, eval e X.env) :: starEach [.Tuple es x1 p2] X.env := by rfl) (hpl : (backTo pos (starEach [.Tuple es x1 p2] X.env)).any (·.1) = false := by rfl)
    (he2 : starEach [.Tuple es x1 p2] X.env = (false, eval (.Tuple es x1 p2) X.env) :: starEach [] X.env := by rfl) : DE X W (.Call (.Name "isinstance" p) [e, .Tuple es x1 p2] [] pos) (wIsi tys yes a) := by
  obtain ⟨t, pt, l⟩ := ha.ex
  refine ⟨_, pe_callB (x := "isinstance") call_isiT hg hm rfl (pa_cons pt (pa_cons (pe_tup hcs) pa_nil he2) he) (by decide) (by decide) he hpl, fun fm H σ ρ Q R QV s q x k => l fm H σ ρ _ R _ s q x fun v H1 d ρ1 q1 g1 r1 => ?_⟩
  refine tCs_run cs σ H1 _ ⟨hlen, fun tp htp => ?_⟩
  obtain ⟨h1, h2, h3⟩ := q1
  have al := Alc.one (o := .tup cs) htp (fun _ _ _ z => by cases z)
  refine ⟨v, tp, cs, d.ty, us, decide (d.ty ∈ yes), rfl, upd_same, hc, rep_ty hI (r1.mono fun b o z => al.up b o (hid_le b o z)) h1 hn, hy _ h1, ?_⟩
  by_cases z : d.ty ∈ yes
  · rw [decide_eq_true z]; exact k _ _ _ ρ1 (h2 z) (g1.alc al) (.bl _)
  · rw [decide_eq_false z]; exact k _ _ _ ρ1 (h3 z) (g1.alc al) (.bl _)
/-! ## a built-in called on an own list, data back that does not hold it -/
def ownL (s : Sl) (k : List D → Prop) : Prop := match s with | .own (.lst xs) => k xs | _ => False
theorem ownL_ex : ∀ {s : Sl} {k : List D → Prop}, ownL s k → ∃ xs, s = .own (.lst xs) ∧ k xs
  | .own (.lst xs), _, h => ⟨xs, rfl, h⟩
  | .own (.dic _ _), _, h => h.elim
  | .own (.ins _ _ _ _), _, h => h.elim
  | .no, _, h => h.elim
  | .v _, _, h => h.elim
theorem de_tupleB {x y : Str} {p pos p' : Pos} (i : Nat) (hg : Gl X x) (hm : X.mg x = none) (hv : bootBuiltins x = some (.type "tuple")) (ha : PE X (.Name y p') (tVar i)) (hn : x ≠ "__name__" := by decide) (hdb : (x == ("__debug__" : Str)) = false := by decide)
    (he : starEach [.Name y p'] X.env = (false, eval (.Name y p') X.env) :: starEach [] X.env := by rfl) (hpl : (backTo pos (starEach [] X.env)).any (·.1) = false := by rfl) : DE X W (.Call (.Name x p) [.Name y p'] [] pos) (fun ρ Q _ => ownL (Env.at ρ i) fun xs => Q (.tup xs) ρ) := by
  refine ⟨_, pe_callTy call_tuple_of hg hm hv (pa_cons ha pa_nil he) hn hdb he hpl, fun fm H σ ρ Q R QV s q x k => ?_⟩
  obtain ⟨xs, h1, q⟩ := ownL_ex q
  obtain ⟨l, vs, hv', hl, hr⟩ := s.own_lst h1
  refine ⟨_, hv', l, vs, rfl, .inl ⟨.inl (.inl hl), fun p hp => k _ _ _ ρ q ((To.refl s).alc (.one hp fun _ _ _ z => by cases z)) (.tup (.inl (.inl ?_)) (reps_up hp hr))⟩⟩
  exact (hide_out fun z => s.trk p z hp).trans upd_same
theorem do_listOfB {x y : Str} {p pos p' : Pos} (i : Nat) (hg : Gl X x) (hm : X.mg x = none) (hv : bootBuiltins x = some (.type "list")) (ha : PE X (.Name y p') (tVar i)) (hn : x ≠ "__name__" := by decide) (hdb : (x == ("__debug__" : Str)) = false := by decide)
    (he : starEach [.Name y p'] X.env = (false, eval (.Name y p') X.env) :: starEach [] X.env := by rfl) (hpl : (backTo pos (starEach [] X.env)).any (·.1) = false := by rfl) : DO X W (.Call (.Name x p) [.Name y p'] [] pos) (fun ρ Q _ => ownL (Env.at ρ i) fun xs => Q (.lst xs) ρ) := by
  refine ⟨_, pe_callTy call_list_of hg hm hv (pa_cons ha pa_nil he) hn hdb he hpl, fun fm H σ ρ Q R QV s q x k => ?_⟩
  obtain ⟨xs, h1, q⟩ := ownL_ex q
  obtain ⟨l, vs, hv', hl, hr⟩ := s.own_lst h1
  exact ⟨_, hv', l, vs, rfl, .inl (.inl (.inl hl)), fun p hp => k p _ _ ρ q (new_lst s hp hr)⟩
/-- x == y, where x is an own list -/
theorem de_eqB {r : R2} {op : CmpOp} {o : O2} {a b : Expr} {wb : WE} {pos : Pos} (i : Nat) (ho : OpR X (compareOp op) r) (hs : OpS X.K r o) (ha : PE X a (tVar i)) (hb : DE X W b wb) (hm : behindInMarks op b = false) : DE X W (.Compare a [op] [b] pos) (fun ρ Q R => ownL (Env.at ρ i) (fun _ => True) ∧ wb ρ (fun e ρ1 => ownL (Env.at ρ1 i) fun xs => o (.lst xs) e fun z => isScal z = true ∧ Q z ρ1) R) := by
  obtain ⟨t, pb, l⟩ := hb.ex
  refine ⟨_, pe_cmpR ho ha pb hm, fun fm H σ ρ Q R QV s q x k => ?_⟩
  obtain ⟨xs0, h0, _⟩ := ownL_ex q.1
  obtain ⟨l0, vs0, hv, _, _⟩ := s.own_lst h0
  refine ⟨_, hv, l fm H σ ρ _ R _ s q.2 x fun v H1 d ρ1 q1 g1 r1 => ?_⟩
  obtain ⟨xs, h1, q1⟩ := ownL_ex q1
  obtain ⟨v', d', A', hv', e', tr, up, rp⟩ := g1.rs.bor (k := fun d => d = .lst xs) (i := i) (by rw [h1]; rfl)
  rw [hv] at hv'; cases hv'
  subst e'
  exact hs A' H1 _ v _ d _ _ tr rp (r1.mono up) q1 fun z dz H3 qz al rz => k z H3 dz ρ1 qz.2 (g1.alc al) (rep_scal rz qz.1)
end
end DL

set_option Elab.async false
set_option linter.all false
set_option maxRecDepth 100000
namespace DL
open PySem L2

section
variable {X : Cx} {W : WW} {K : PySem.W.Frag}
/-! ## name = [.. for ..] -/
theorem ds_setLcO {j : Nat} {y : Str} {py : Pos} {elt tg iter : Expr} {ifs : List Expr} {scope : Scope} {own : List (Str × Nat)} {pos spos : Pos} {i : WI} {g : WG} {t : WT} {e : WE} (hc : X.calm = true) (hN : X.N.Nodup) (hy : X.N[j]? = some y) (hyl : X.env.scope.names.lookup y = some .local) (hj : j ∉ W.io)
    (hsw : swapsWith (.ListComp elt [⟨tg, iter, ifs, 0⟩] scope pos) (some (.Name y py)) spos.line X.env = pure true) (hi : DI X W tg iter i) (ok : BlkOk X.N X.env.scope scope own) (hio : ∀ v ∈ own.map (·.2), v ∉ W.io)
    (hg : ∀ (s : Shared) (H : Hp) (C : Addr) (cl : List (Str × Addr)) (fp : List Addr), DG (X.blk s H scope (compEnvC scope cl C X.env) fp) W.io (own.map (·.2)) tg g)
    (ht : ∃ tt, (∀ (s : Shared) (H : Hp) (C : Addr) (cl : List (Str × Addr)) (fp : List Addr), PTs (X.blk s H scope (compEnvC scope cl C X.env) fp) ifs tt) ∧ LT X.K W.no tt t)
    (he : ∀ (s : Shared) (H : Hp) (C : Addr) (cl : List (Str × Addr)) (fp : List Addr), DE (X.blk s H scope (compEnvC scope cl C X.env) fp) W.no elt e) (hs : ∀ x, foldedSetIterable iter X.env x = pure x := by intro _; rfl) :
    DS X W (.Assign [.Name y py] (.ListComp elt [⟨tg, iter, ifs, 0⟩] scope pos) spos) (sSetO j (wComp i g t e (own.map (·.2)))) := by
  obtain ⟨t1, p1, l1⟩ := hi.ex
  obtain ⟨tt, p2, l2⟩ := ht
  exact ⟨_, ps_setLc (g := tgOf X.K W.io (own.map (·.2)) g) (te := tOfE X.K W.no e) hc hN hy hyl hsw p1 ok (fun s H C cl fp => (hg s H C cl fp).pg) p2 (fun s H C cl fp => (he s H C cl fp).pe) hs,
    ls_setO hj (lo_comp hio l1 (lg_of X.K W.io (own.map (·.2)) g) l2 (le_of X.K W.no e))⟩
theorem ds_setLc {j : Nat} {y : Str} {py : Pos} {elt tg iter : Expr} {ifs : List Expr} {scope : Scope} {own : List (Str × Nat)} {pos spos : Pos} {i : WI} {g : WG} {t : WT} {e : WE} (hc : X.calm = true) (hN : X.N.Nodup) (hy : X.N[j]? = some y) (hyl : X.env.scope.names.lookup y = some .local) (hj : j ∉ W.io)
    (hsw : swapsWith (.ListComp elt [⟨tg, iter, ifs, 0⟩] scope pos) (some (.Name y py)) spos.line X.env = pure true) (hi : DI X W tg iter i) (ok : BlkOk X.N X.env.scope scope own) (hio : ∀ v ∈ own.map (·.2), v ∉ W.io)
    (hg : ∀ (s : Shared) (H : Hp) (C : Addr) (cl : List (Str × Addr)) (fp : List Addr), DG (X.blk s H scope (compEnvC scope cl C X.env) fp) W.io (own.map (·.2)) tg g)
    (ht : ∃ tt, (∀ (s : Shared) (H : Hp) (C : Addr) (cl : List (Str × Addr)) (fp : List Addr), PTs (X.blk s H scope (compEnvC scope cl C X.env) fp) ifs tt) ∧ LT X.K W.no tt t)
    (he : ∀ (s : Shared) (H : Hp) (C : Addr) (cl : List (Str × Addr)) (fp : List Addr), DE (X.blk s H scope (compEnvC scope cl C X.env) fp) W.no elt e) (hs : ∀ x, foldedSetIterable iter X.env x = pure x := by intro _; rfl) :
    DS X W (.Assign [.Name y py] (.ListComp elt [⟨tg, iter, ifs, 0⟩] scope pos) spos) (sSet j (wOD (wComp i g t e (own.map (·.2))))) := by
  obtain ⟨t1, p1, l1⟩ := hi.ex
  obtain ⟨tt, p2, l2⟩ := ht
  exact ⟨_, ps_setLc (g := tgOf X.K W.io (own.map (·.2)) g) (te := tOfE X.K W.no e) hc hN hy hyl hsw p1 ok (fun s H C cl fp => (hg s H C cl fp).pg) p2 (fun s H C cl fp => (he s H C cl fp).pe) hs,
    ls_set hj (lo_comp hio l1 (lg_of X.K W.io (own.map (·.2)) g) l2 (le_of X.K W.no e)).le⟩
/-! ## reversed(range(..)) -/
def revD (lo : Int) (n : Nat) : List D := (rangeD lo n).reverse
theorem walkD_itc {lo : Int} {n : Nat} {Hb : Hp} : WalkD K (Itc (lo + ((n : Nat) : Int) - 1) (-1) n) Hb (revD lo n) := fun A H m tr => by
  have hl : (revD lo n).length = n := by rw [revD, List.length_reverse, rangeD_length]
  refine ⟨by rw [hl]; exact Nat.le_refl _, fun i d e => ?_⟩
  have hi : i < n := by have := (List.getElem?_eq_some_iff.mp e).1; rwa [hl] at this
  refine ⟨hi, fun x H' y => ?_⟩
  obtain ⟨e1, e2⟩ := y
  subst e1 e2
  have hr : (revD lo n)[i]? = some (.int (lo + ((n - 1 - i : Nat) : Int))) := by
    rw [revD, List.getElem?_reverse (by rw [rangeD_length]; exact hi), rangeD_length, rangeD_get n lo _ (by omega)]
  rw [hr] at e
  cases e
  refine ⟨.refl _, ?_⟩
  have : lo + ((n : Nat) : Int) - 1 + ((i : Nat) : Int) * (-1) = lo + ((n - 1 - i : Nat) : Int) := by omega
  rw [this]; exact .int _
def wRev1 (a : WE) : WI := fun ρ Q R => a ρ (fun d ρ1 => intOf d fun j => (-(2 ^ 62) ≤ j ∧ j < 2 ^ 62) ∧ Q (revD 0 j.toNat) ρ1) R
theorem di_rev1 {tg e : Expr} {p p2 pos pos2 : Pos} {a : WE} (hg : Gl X "reversed") (hm : X.mg "reversed" = none) (hg2 : Gl X "range") (hm2 : X.mg "range" = none) (ha : DE X W e a) (na : starEach [e] X.env = (false, eval e X.env) :: starEach [] X.env := by rfl)
    (hs : starEach [.Call (.Name "range" p2) [e] [] pos2] X.env = (false, eval (.Call (.Name "range" p2) [e] [] pos2) X.env) :: starEach [] X.env := by rfl) : DI X W tg (.Call (.Name "reversed" p) [.Call (.Name "range" p2) [e] [] pos2] [] pos) (wRev1 a) := by
  obtain ⟨t, pt, l⟩ := ha.ex
  refine ⟨_, pi_revR hg hm (prg_1 hg2 hm2 pt na) hs, fun fm H σ ρ Q R RI r q x k => l fm H σ ρ _ R _ r q x fun v H1 d ρ1 q1 g1 r1 => ?_⟩
  cases d <;> first | exact q1.elim | skip
  rename_i j
  cases r1
  obtain ⟨⟨b1, b2⟩, q1⟩ := q1
  refine ⟨j, rfl, by decide, by decide, b1, b2, k _ H1 _ ρ1 q1 g1 ?_⟩
  have : (j - 0).toNat = j.toNat := by omega
  rw [this]; exact walkD_itc
end
/-! ## defs as they are called -/
structure Cal (P : Program) (w : World) (K : PySem.W.Frag) (mg : Str → Option Value) (base : Heap) (k : Nat) (x : Str) (ps : List Str) (sp : SpD) : Prop where
  ex : ∃ f fd, FnOk P w K mg base (L2.CX P w) k f fd ps (spOf K sp) ∧ mg x = some (.ref f) ∧ PySem.W.keepIn K (.ref f) = true ∧ Binds K fd ps []
  mo : MonoSp sp
theorem takes_no {X : Cx} : Takes X (fun _ _ _ _ => False) := fun u s' h => by
  obtain ⟨a, B, sI, pins, σ, H, cls, d, e, I, nb, up, sky, na, os, ag, w⟩ := h
  exact w.elim
section
variable {X : Cx} {W : WW} {k : Nat} {x : Str} {e : Expr} {es : List Expr} {ps : List Str} {sp : SpD} {a : WAr} {p pos : Pos}
theorem de_c (c : Cal X.prog X.w X.K X.mg X.base k x ps sp) (hr : Room k X.A) (hg : Gl X x) (tk : Takes X W.x) (ha : DR X W (e :: es) a)
    (hdb : (x == ("__debug__" : Str)) = false := by decide) (he : starEach (e :: es) X.env = (false, eval e X.env) :: starEach es X.env := by rfl) (hpl : (backTo pos (starEach es X.env)).any (·.1) = false := by rfl) : DE X W (.Call (.Name x p) (e :: es) [] pos) (wCallR sp a) := by
  obtain ⟨f, fd, F, hm, hk, hb⟩ := c.ex
  exact de_callR F c.mo hr hg hm hk hb tk ha hdb he hpl
theorem do_c (c : Cal X.prog X.w X.K X.mg X.base k x ps sp) (hr : Room k X.A) (hg : Gl X x) (tk : Takes X W.x) (ha : DR X W (e :: es) a)
    (hdb : (x == ("__debug__" : Str)) = false := by decide) (he : starEach (e :: es) X.env = (false, eval e X.env) :: starEach es X.env := by rfl) (hpl : (backTo pos (starEach es X.env)).any (·.1) = false := by rfl) : DO X W (.Call (.Name x p) (e :: es) [] pos) (wCallRO sp a) := by
  obtain ⟨f, fd, F, hm, hk, hb⟩ := c.ex
  exact do_callR F c.mo hr hg hm hk hb tk ha hdb he hpl
end
/-! ## promises in short -/
/-- a def of values: pre, and each result that post allows -/
def spV (n : Nat) (pre : List D → Prop) (post : List D → D → Prop) : SpD := fun ins Q _ => ∃ ds, ins = ds.map Sl.v ∧ ds.length = n ∧ pre ds ∧ ∀ d, post ds d → Q (.v d) (List.replicate n .no)
theorem mono_spV {n : Nat} {pre : List D → Prop} {post : List D → D → Prop} : MonoSp (spV n pre post) := fun ins Q Q' R R' h1 h2 ⟨ds, e, l, p, k⟩ => ⟨ds, e, l, p, fun d h => h1 _ _ (k d h)⟩
/-- a def whose first parameter is an own list that it changes -/
def spR (n : Nat) (pre : List D → List D → Prop) (post : List D → List D → D → List D → Prop) : SpD := fun ins Q _ => ∃ xs ds, ins = .own (.lst xs) :: ds.map Sl.v ∧ ds.length = n ∧ pre xs ds ∧ ∀ d ys, post xs ds d ys → Q (.v d) (.own (.lst ys) :: List.replicate n .no)
theorem mono_spR {n : Nat} {pre : List D → List D → Prop} {post : List D → List D → D → List D → Prop} : MonoSp (spR n pre post) := fun ins Q Q' R R' h1 h2 ⟨xs, ds, e, l, p, k⟩ => ⟨xs, ds, e, l, p, fun d ys h => h1 _ _ (k d ys h)⟩
theorem at_vs : ∀ {ds : List D} {j : Nat} {o : OD}, Env.at (ds.map Sl.v) j ≠ .own o
  | [], _, _, h => by cases h
  | _ :: _, 0, _, h => by cases h
  | _ :: ds, j + 1, o, h => at_vs (ds := ds) (j := j) h
theorem io_spV {n : Nat} {pre : List D → Prop} {post : List D → D → Prop} {io : List Nat} : ∀ ins Q R, spV n pre post ins Q R → ∀ j o, Env.at ins j = .own o → j ∈ io := fun ins Q R ⟨ds, e, l, p, k⟩ j o h => by subst e; exact (at_vs h).elim
theorem len_spV {n : Nat} {pre : List D → Prop} {post : List D → D → Prop} : ∀ ins Q R, spV n pre post ins Q R → ins.length = n := fun ins Q R ⟨ds, e, l, p, k⟩ => by subst e; rw [List.length_map]; exact l
theorem io_spR {n : Nat} {pre : List D → List D → Prop} {post : List D → List D → D → List D → Prop} : ∀ ins Q R, spR n pre post ins Q R → ∀ j o, Env.at ins j = .own o → j ∈ [0] := fun ins Q R ⟨xs, ds, e, l, p, k⟩ j o h => by
  subst e
  cases j with
  | zero => exact List.mem_cons_self
  | succ j => exact (at_vs h).elim
theorem len_spR {n : Nat} {pre : List D → List D → Prop} {post : List D → List D → D → List D → Prop} : ∀ ins Q R, spR n pre post ins Q R → ins.length = n + 1 := fun ins Q R ⟨xs, ds, e, l, p, k⟩ => by subst e; simp [l]
theorem u64_of {k : Nat} {A : Around} (hr : Room k A) : A.units + 64 < cLine := by have := hr.un; omega
end DL

set_option Elab.async false
set_option linter.all false
set_option maxRecDepth 100000
namespace DL
open PySem L2

section
variable {X : Cx} {W : WW} {K : PySem.W.Frag}
/-- x += a new list, x a slot's own list -/
def sExtO (i : Nat) (val : WO) : WS := fun ρ k => modL ρ i (fun _ _ => True) ∧ val ρ (fun o ρ1 => match o with | .lst ys => modL ρ1 i fun xs f => xs.length + ys.length ≤ LIM ∧ k.nx (f (xs ++ ys)) | _ => False) k.ex
theorem ds_extO {i : Nat} {x : Str} {e : Expr} {val : WO} {pos pos' : Pos} (hN : X.N.Nodup) (hx : X.N[i]? = some x) (hl : Loc X.env.scope x) (hv : DO X W e val)
    (hfn : X.fn x = true ∨ X.env.scope.names.lookup x = some .local := by first | exact .inl rfl | exact .inr rfl | assumption) : DS X W (.AugAssign (.Name x pos') .Add e pos) (sExtO i val) := by
  obtain ⟨tv, pv, lv⟩ := hv.ex
  refine ⟨_, ps_aug (ti := rExt2) hN hx hl pv iop_ext hfn, fun fm H σ ρ k D s hf q e => ?_⟩
  obtain ⟨q0, q⟩ := q
  obtain ⟨xs0, h0, _⟩ := modL_spec q0
  obtain ⟨l, vs0, hv0, hl0, _⟩ := s.own_lst h0
  refine ⟨_, hv0, lv fm H σ ρ _ k.ex _ s q (e.xok hf) fun p H1 o ρ1 q1 n => ?_⟩
  cases o with
  | lst ys =>
    obtain ⟨xs, h1, hz, q2⟩ := modL_spec q1
    obtain ⟨l', vs, hv', hl1, hr⟩ := n.to.rs.own_lst h1
    rw [hv0] at hv'; cases hv'
    obtain ⟨us, hp, hu⟩ := n.oa
    have hu' : Reps X.K (fm.hid σ ρ1 H1) us ys := hu.mono fun b o z => by
      obtain ⟨m, z⟩ := hide_some z
      exact (hide_out fun w => m (List.mem_append_right _ w)).trans z
    refine ⟨l, p, vs, us, rfl, rfl, hl1, hp, by rw [hr.length, hu.length, ← lim]; exact hz, ?_⟩
    have t := n.to.rs.updL hv0 h1 hl1 (hr.append hu')
    show D.nx (σ.set i (some (.ref l))) _
    rw [set_self hv0]
    exact e.nx σ _ _ q2 t.rs fun b o z => t.go.sub b o (n.to.go.sub b o z)
  | dic _ _ => exact q1.elim
  | ins _ _ _ _ => exact q1.elim
theorem iadd_s : OpS K (rI0 fun i j => .int (i + j)) (o2I0 fun i j => .int (i + j)) := ops_I0 fun _ _ _ => .int _
theorem isub_s : OpS K (rI0 fun i j => .int (i - j)) (o2I0 fun i j => .int (i - j)) := ops_I0 fun _ _ _ => .int _
theorem imul_s : OpS K (rI CMul fun i j => .int (i * j)) (o2I CMul fun i j => .int (i * j)) := ops_I fun _ _ _ => .int _
theorem ifdiv_s : OpS K (rI CDivW fun i j => .int (i / j)) (o2I CDivW fun i j => .int (i / j)) := ops_I fun _ _ _ => .int _
end
/-! ## small facts -/
theorem pdAll_map {α : Type} (f : α → D) : ∀ xs : List α, pdAll (xs.map f) = xs.map fun x => (f x).pd
  | [] => rfl
  | x :: xs => by rw [List.map_cons, pdAll, pdAll_map f xs]; rfl
theorem canAll {ds : List PyData} (h : ∀ d ∈ ds, d.canLay0 = true) : PyData.canLayAll0 ds = true := by
  induction ds with
  | nil => rfl
  | cons d ds ih => rw [PyData.canLayAll0, h d List.mem_cons_self, ih fun d hd => h d (List.mem_cons_of_mem _ hd)]; rfl
theorem depthAll_le {n : Nat} {ds : List PyData} (h : ∀ d ∈ ds, d.depth ≤ n) : PyData.depthAll ds ≤ n := by
  induction ds with
  | nil => exact Nat.zero_le _
  | cons d ds ih => rw [PyData.depthAll]; exact Nat.max_le.mpr ⟨h d List.mem_cons_self, ih fun d hd => h d (List.mem_cons_of_mem _ hd)⟩
/-- can be compared: n: how deep -/
def Cmp (n : Nat) (d : D) : Prop := d.pd.canLay0 = true ∧ d.pd.depth ≤ n
theorem Cmp.ok {n : Nat} {d : D} (h : Cmp n d) (hn : n ≤ 64 := by decide) : EqOk d := by
  unfold EqOk SeqAt.shaped
  rw [h.1, Bool.true_and]
  exact decide_eq_true (Nat.le_trans h.2 hn)
theorem pdAll_mem {P : PyData → Prop} {ds : List D} (h : ∀ d ∈ ds, P d.pd) : ∀ d ∈ pdAll ds, P d := by
  induction ds with
  | nil => intro d hd; cases hd
  | cons d ds ih =>
    intro e he
    rw [pdAll] at he
    rcases List.mem_cons.mp he with rfl | he
    · exact h d List.mem_cons_self
    · exact ih (fun d hd => h d (List.mem_cons_of_mem _ hd)) e he
theorem Cmp.int (i : Int) : Cmp 0 (.int i) := ⟨rfl, Nat.le_refl _⟩
theorem Cmp.non : Cmp 0 .non := ⟨rfl, Nat.le_refl _⟩
theorem Cmp.bl (b : Bool) : Cmp 0 (.bl b) := ⟨rfl, Nat.le_refl _⟩
theorem Cmp.lst {n : Nat} {ds : List D} (h : ∀ d ∈ ds, Cmp n d) : Cmp (n + 1) (.lst ds) := by
  refine ⟨?_, ?_⟩
  · show PyData.canLay0 (.list (pdAll ds)) = true
    rw [PyData.canLay0]; exact canAll (pdAll_mem fun d hd => (h d hd).1)
  · show PyData.depth (.list (pdAll ds)) ≤ n + 1
    rw [PyData.depth]; exact Nat.succ_le_succ (depthAll_le (pdAll_mem fun d hd => (h d hd).2))
theorem Cmp.tup {n : Nat} {ds : List D} (h : ∀ d ∈ ds, Cmp n d) : Cmp (n + 1) (.tup ds) := by
  refine ⟨?_, ?_⟩
  · show PyData.canLay0 (.tuple (pdAll ds)) = true
    rw [PyData.canLay0]; exact canAll (pdAll_mem fun d hd => (h d hd).1)
  · show PyData.depth (.tuple (pdAll ds)) ≤ n + 1
    rw [PyData.depth]; exact Nat.succ_le_succ (depthAll_le (pdAll_mem fun d hd => (h d hd).2))
def intsD (xs : List Int) : D := .lst (xs.map .int)
theorem Cmp.ints (xs : List Int) : Cmp 1 (intsD xs) := .lst fun d hd => by
  obtain ⟨i, _, rfl⟩ := List.mem_map.mp hd
  exact .int i
theorem eqvAll_ints : ∀ xs ys : List Int, PyData.eqvAll (pdAll (xs.map .int)) (pdAll (ys.map .int)) = decide (xs = ys)
  | [], [] => by simp [pdAll, PyData.eqvAll]
  | [], y :: ys => by simp [pdAll, PyData.eqvAll]
  | x :: xs, [] => by simp [pdAll, PyData.eqvAll]
  | x :: xs, y :: ys => by
    rw [List.map_cons, List.map_cons, pdAll, pdAll, PyData.eqvAll, eqvAll_ints xs ys]
    simp only [D.pd, PyData.eqv]
    by_cases h : x = y
    · subst h; simp
    · simp [h]
theorem eqv_ints (xs ys : List Int) : D.eqv (intsD xs) (intsD ys) = decide (xs = ys) := by
  unfold D.eqv intsD
  rw [D.pd, D.pd, PyData.eqv, eqvAll_ints]
theorem atI_map {α β : Type} (f : α → β) (xs : List α) (i : Int) : atI (xs.map f) i = (atI xs i).map f := by
  unfold L2.atI
  rw [List.length_map]
  cases ixN xs.length i with
  | none => rfl
  | some j => simp [List.getElem?_map]
theorem ixN_nn {n i : Nat} (h : i < n) : ixN n (i : Int) = some i := by
  unfold ixN
  rw [if_pos (Int.natCast_nonneg i), if_pos (by omega)]
  simp
theorem atI_nn {α : Type} {xs : List α} {i : Nat} (h : i < xs.length) : atI xs (i : Int) = some xs[i] := by
  unfold L2.atI
  rw [ixN_nn h]
  simp [h]
/-- a place in the bounds -/
theorem atI_in {α : Type} {xs : List α} {i : Int} (h0 : 0 ≤ i) (h : i < xs.length) : ∃ z, atI xs i = some z ∧ xs[i.toNat]? = some z := by
  obtain ⟨n, rfl⟩ := Int.eq_ofNat_of_zero_le h0
  have hn : n < xs.length := by omega
  exact ⟨xs[n], atI_nn hn, by simp [hn]⟩
theorem mulOk_r {i j : Int} (h : -(2 ^ 64) < j ∧ j < 2 ^ 64) : MulOk i j := .inl (.inr h)
theorem mulOk_l {i j : Int} (h : -(2 ^ 64) < i ∧ i < 2 ^ 64) : MulOk i j := .inl (.inl h)
/-- a comprehension by an invariant over what is left and what is made -/
theorem compGo_inv {g : WG} {t : WT} {e : WE} {vs : List Nat} {Q : List D → Env → Prop} (I : List D → List D → Env → Prop)
    (step : ∀ d ds acc ρ, I (d :: ds) acc ρ → ∀ P : List D → Env → Prop, (∀ acc' ρ', I ds acc' ρ' → P acc' ρ') → g d ρ fun ρ1 => t ρ1 (fun b ρ2 => (b = true → e ρ2 (fun y ρ3 => acc.length < LIM ∧ wipeK ρ3 vs fun ρ4 => P (acc ++ [y]) ρ4) fun _ _ => False) ∧ (b = false → wipeK ρ2 vs fun ρ4 => P acc ρ4)) fun _ _ => False)
    (fin : ∀ acc ρ, I [] acc ρ → Q acc ρ) : ∀ ds acc ρ, I ds acc ρ → compGo g t e vs ds acc ρ Q
  | [], acc, ρ, h => fin acc ρ h
  | d :: ds, acc, ρ, h => step d ds acc ρ h (fun acc' ρ' => compGo g t e vs ds acc' ρ' Q) fun acc' ρ' h' => compGo_inv I step fin ds acc' ρ' h'
/-! slices -/
theorem cut_to {α : Type} (xs : List α) {k : Int} (h : 0 ≤ k) : cut xs none (some k) = xs.take k.toNat := by
  unfold cut HT.sIx
  simp only [if_neg (show ¬ k < 0 by omega), List.drop_zero, Nat.sub_zero]
  rw [List.take_eq_take_iff]
  omega
theorem cut_from {α : Type} (xs : List α) {k : Int} (h : 0 ≤ k) : cut xs (some k) none = xs.drop k.toNat := by
  unfold cut HT.sIx
  simp only [if_neg (show ¬ k < 0 by omega)]
  rw [List.take_of_length_le (by rw [List.length_drop]; omega)]
  rcases Nat.le_total k.toNat xs.length with h | h
  · rw [Nat.min_eq_left h]
  · rw [Nat.min_eq_right h, List.drop_of_length_le h, List.drop_of_length_le (Nat.le_refl _)]
theorem cut_init {α : Type} (xs : List α) : cut xs none (some (-1)) = xs.dropLast := by
  unfold cut HT.sIx
  simp only [if_pos (show (-1 : Int) < 0 by decide), List.drop_zero, Nat.sub_zero]
  rw [List.dropLast_eq_take]
  congr 1
  omega
theorem cut_mid {α : Type} (xs : List α) {a b : Int} (ha : 0 ≤ a) (hb : 0 ≤ b) : cut xs (some a) (some b) = (xs.drop a.toNat).take (b.toNat - a.toNat) := by
  unfold cut HT.sIx
  simp only [if_neg (show ¬ a < 0 by omega), if_neg (show ¬ b < 0 by omega)]
  rcases Nat.le_total a.toNat xs.length with h | h
  · rw [Nat.min_eq_left h, List.take_eq_take_iff, List.length_drop]; omega
  · rw [Nat.min_eq_right h, List.drop_of_length_le h, List.drop_of_length_le (Nat.le_refl _)]; simp
theorem cut_map {α β : Type} (f : α → β) (xs : List α) (lo hi : Option Int) : cut (xs.map f) lo hi = (cut xs lo hi).map f := by
  unfold cut
  rw [List.length_map, List.map_take, List.map_drop]
theorem repL_map {α β : Type} (f : α → β) (k : Int) (xs : List α) : repL k (xs.map f) = (repL k xs).map f := by
  unfold repL
  rw [List.map_flatten, List.map_replicate]
theorem repL_length {α : Type} (k : Int) (xs : List α) : (repL k xs).length = k.toNat * xs.length := by
  unfold repL
  rw [List.length_flatten, List.map_replicate, List.sum_replicate_nat]
theorem repL_mem {α : Type} {k : Int} {xs : List α} {x : α} (h : x ∈ repL k xs) : x ∈ xs := by
  unfold repL at h
  obtain ⟨l, hl, hx⟩ := List.mem_flatten.mp h
  rw [(List.mem_replicate.mp hl).2] at hx; exact hx
end DL

set_option Elab.async false
set_option linter.all false
set_option maxRecDepth 100000
namespace DL
open PySem L2

/-! ## methods, own indexing and new instances as they are called -/
structure CalM (P : Program) (w : World) (K : PySem.W.Frag) (mg : Str → Option Value) (base : Heap) (C : Addr) (k : Nat) (m : Str) (ps : List Str) (sp : SpD) : Prop where
  ex : ∃ f fd, FnOk P w K mg base (L2.CX P w) k f fd ps (spOf K sp) ∧ Meth K C m f ∧ Binds K fd ps []
  mo : MonoSp sp
structure CalG (P : Program) (w : World) (K : PySem.W.Frag) (mg : Str → Option Value) (base : Heap) (C : Addr) (k : Nat) (ps : List Str) (sp : SpD) : Prop where
  ex : ∃ f fd, FnOk P w K mg base (L2.CX P w) k f fd ps (spOf K sp) ∧ PySem.W.findIn K (.ref C) "__getitem__" = some (some (.ref f)) ∧ PySem.W.fnIn K f = true ∧ PySem.W.isFn K (.ref f) = true ∧ Binds K fd ps []
  mo : MonoSp sp
structure CalN (P : Program) (w : World) (K : PySem.W.Frag) (mg : Str → Option Value) (base : Heap) (C : Addr) (x : Str) (k : Nat) (ps : List Str) (sp : SpD) : Prop where
  ex : ∃ f fd, FnOk P w K mg base (L2.CX P w) k f fd ps (spOf K sp) ∧ Mk K C f ∧ Binds K fd ps []
  mg : mg x = some (.ref C)
  mo : MonoSp sp
section
variable {X : Cx} {W : WW} {k : Nat} {C : Addr} {x m : Str} {e o : Expr} {es : List Expr} {ps : List Str} {sp : SpD} {a : WAr} {wa : WA} {wo wi : WE} {p pos apos : Pos}
theorem de_m {pl : Sem Bool} (c : CalM X.prog X.w X.K X.mg X.base C k m ps sp) (cl : Cls X.K C) (ho : DE X W o wo) (hr : Room k X.A) (tk : Takes X W.x) (ha : DR X W (e :: es) a)
    (hst : starEach (e :: es) X.env = (false, eval e X.env) :: starEach es X.env := by rfl) (hpl : (backTo pos (starEach es X.env)).any (·.1) = false := by rfl)
    (ht : eval (.Call (.Attribute o m apos) (e :: es) [] pos) X.env = (do
      let ov ← eval o X.env
      standAt apos.atName
      let (f, first) ← holding [ov] (getMethod ov m pl)
      callWith pos f first (backTo pos (starEach (e :: es) X.env)) (backToKw pos (keywordEach [] X.env))) := by rfl) : DE X W (.Call (.Attribute o m apos) (e :: es) [] pos) (wMeth sp C m wo a) := by
  obtain ⟨f, fd, F, hm, hb⟩ := c.ex
  exact de_meth ho cl hm F c.mo hr hb tk ha hst hpl ht
theorem do_m {pl : Sem Bool} (c : CalM X.prog X.w X.K X.mg X.base C k m ps sp) (cl : Cls X.K C) (ho : DE X W o wo) (hr : Room k X.A) (tk : Takes X W.x) (ha : DR X W (e :: es) a)
    (hst : starEach (e :: es) X.env = (false, eval e X.env) :: starEach es X.env := by rfl) (hpl : (backTo pos (starEach es X.env)).any (·.1) = false := by rfl)
    (ht : eval (.Call (.Attribute o m apos) (e :: es) [] pos) X.env = (do
      let ov ← eval o X.env
      standAt apos.atName
      let (f, first) ← holding [ov] (getMethod ov m pl)
      callWith pos f first (backTo pos (starEach (e :: es) X.env)) (backToKw pos (keywordEach [] X.env))) := by rfl) : DO X W (.Call (.Attribute o m apos) (e :: es) [] pos) (wMethO sp C m wo a) := by
  obtain ⟨f, fd, F, hm, hb⟩ := c.ex
  exact do_meth ho cl hm F c.mo hr hb tk ha hst hpl ht
theorem de_g {slice : Expr} (c : CalG X.prog X.w X.K X.mg X.base C k ps sp) (ho : DE X W o wo) (hi : DE X W slice wi) (hr : Room (k + 1) X.A) (tk : Takes X W.x)
    (hsl : ∀ x i, subscripted slice true x i = runValue (.builtin "lifetime.subscript" ⟨[x, i], []⟩) := by intros; with_unfolding_all rfl) : DE X W (.Subscript o slice pos) (wGet sp C wo wi) := by
  obtain ⟨f, fd, F, h1, h2, h3, hb⟩ := c.ex
  exact de_get ho hi h1 h2 h3 F c.mo hr hb tk hsl
theorem de_n (c : CalN X.prog X.w X.K X.mg X.base C x k ps sp) (hr : Room (k + 1) X.A) (hg : Gl X x) (tk : Takes X W.x) (ha : DA X W (e :: es) wa)
    (hdb : (x == ("__debug__" : Str)) = false := by decide) (he : starEach (e :: es) X.env = (false, eval e X.env) :: starEach es X.env := by rfl) (hpl : (backTo pos (starEach es X.env)).any (·.1) = false := by rfl) : DE X W (.Call (.Name x p) (e :: es) [] pos) (wMake sp C wa) := by
  obtain ⟨f, fd, F, M, hb⟩ := c.ex
  exact de_make M F c.mo hr hg c.mg hb tk ha hdb he hpl
end
/-- a def with defaults, as it is called with all its arguments or without the last ones -/
structure CalD (P : Program) (w : World) (K : PySem.W.Frag) (mg : Str → Option Value) (base : Heap) (k : Nat) (x : Str) (ps : List Str) (sp : SpD) (ds : List D) : Prop where
  ex : ∃ f fd dvs vals, FnOk P w K mg base (L2.CX P w) k f fd ps (spOf K sp) ∧ mg x = some (.ref f) ∧ PySem.W.keepIn K (.ref f) = true ∧ Binds K fd ps [] ∧ Vals dvs vals ∧ (∀ H, Reps K H dvs ds) ∧ Binds K fd ps vals
  mo : MonoSp sp
theorem CalD.cal {P : Program} {w : World} {K : PySem.W.Frag} {mg : Str → Option Value} {base : Heap} {k : Nat} {x : Str} {ps : List Str} {sp : SpD} {ds : List D} (c : CalD P w K mg base k x ps sp ds) : Cal P w K mg base k x ps sp := by
  obtain ⟨f, fd, dvs, vals, F, hm, hk, hb, _⟩ := c.ex
  exact ⟨⟨f, fd, F, hm, hk, hb⟩, c.mo⟩
theorem de_cd {X : Cx} {W : WW} {k : Nat} {x : Str} {e : Expr} {es : List Expr} {ps : List Str} {sp : SpD} {ds : List D} {a : WAr} {p pos : Pos} (c : CalD X.prog X.w X.K X.mg X.base k x ps sp ds) (hr : Room k X.A) (hg : Gl X x) (tk : Takes X W.x) (ha : DR X W (e :: es) a)
    (hdb : (x == ("__debug__" : Str)) = false := by decide) (he : starEach (e :: es) X.env = (false, eval e X.env) :: starEach es X.env := by rfl) (hpl : (backTo pos (starEach es X.env)).any (·.1) = false := by rfl) : DE X W (.Call (.Name x p) (e :: es) [] pos) (wCallR sp (wrDef ds a)) := by
  obtain ⟨f, fd, dvs, vals, F, hm, hk, hb, hv, hd, hb2⟩ := c.ex
  exact de_callRD F c.mo hr hg hm hk hb2 hv hd tk ha hdb he hpl
/-- __init__: the new instance with fields that post allows -/
def spI (C : Addr) (n : Nat) (pre : List D → Prop) (post : List D → List Str → List D → Prop) : SpD := fun ins Q _ => ∃ dx ds, ins = .own (.ins C dx [] []) :: ds.map Sl.v ∧ ds.length = n ∧ pre ds ∧ ∀ ns xs, post ds ns xs → Q (.v .non) (.own (.ins C dx ns xs) :: List.replicate n .no)
theorem mono_spI {C : Addr} {n : Nat} {pre : List D → Prop} {post : List D → List Str → List D → Prop} : MonoSp (spI C n pre post) := fun ins Q Q' R R' h1 h2 ⟨dx, ds, e, l, p, k⟩ => ⟨dx, ds, e, l, p, fun ns xs h => h1 _ _ (k ns xs h)⟩
theorem len_spI {C : Addr} {n : Nat} {pre : List D → Prop} {post : List D → List Str → List D → Prop} : ∀ ins Q R, spI C n pre post ins Q R → ins.length = n + 1 := fun ins Q R ⟨dx, ds, e, l, p, k⟩ => by subst e; simp [l]
theorem io_spI {C : Addr} {n : Nat} {pre : List D → Prop} {post : List D → List Str → List D → Prop} : ∀ ins Q R, spI C n pre post ins Q R → ∀ j o, Env.at ins j = .own o → j ∈ [0] := fun ins Q R ⟨dx, ds, e, l, p, k⟩ j o h => by
  subst e
  cases j with
  | zero => exact List.mem_cons_self
  | succ j => exact (at_vs h).elim
/-! promises by what is handed in: a tells the arguments -/
def spF {α : Type} (n : Nat) (arg : α → List D) (pre : α → Prop) (post : α → D → Prop) : SpD := fun ins Q _ => ∃ a, ins = (arg a).map Sl.v ∧ (arg a).length = n ∧ pre a ∧ ∀ d, post a d → Q (.v d) (List.replicate n .no)
theorem mono_spF {α : Type} {n : Nat} {arg : α → List D} {pre : α → Prop} {post : α → D → Prop} : MonoSp (spF n arg pre post) := fun ins Q Q' R R' h1 h2 ⟨a, e, l, p, k⟩ => ⟨a, e, l, p, fun d h => h1 _ _ (k d h)⟩
theorem len_spF {α : Type} {n : Nat} {arg : α → List D} {pre : α → Prop} {post : α → D → Prop} : ∀ ins Q R, spF n arg pre post ins Q R → ins.length = n := fun ins Q R ⟨a, e, l, p, k⟩ => by subst e; rw [List.length_map]; exact l
theorem io_spF {α : Type} {n : Nat} {arg : α → List D} {pre : α → Prop} {post : α → D → Prop} {io : List Nat} : ∀ ins Q R, spF n arg pre post ins Q R → ∀ j o, Env.at ins j = .own o → j ∈ io := fun ins Q R ⟨a, e, l, p, k⟩ j o h => by subst e; exact (at_vs h).elim
/-- the same, a new list back -/
def spFO {α : Type} (n : Nat) (arg : α → List D) (pre : α → Prop) (post : α → List D → Prop) : SpD := fun ins Q _ => ∃ a, ins = (arg a).map Sl.v ∧ (arg a).length = n ∧ pre a ∧ ∀ xs, post a xs → Q (.own (.lst xs)) (List.replicate n .no)
theorem mono_spFO {α : Type} {n : Nat} {arg : α → List D} {pre : α → Prop} {post : α → List D → Prop} : MonoSp (spFO n arg pre post) := fun ins Q Q' R R' h1 h2 ⟨a, e, l, p, k⟩ => ⟨a, e, l, p, fun d h => h1 _ _ (k d h)⟩
theorem len_spFO {α : Type} {n : Nat} {arg : α → List D} {pre : α → Prop} {post : α → List D → Prop} : ∀ ins Q R, spFO n arg pre post ins Q R → ins.length = n := fun ins Q R ⟨a, e, l, p, k⟩ => by subst e; rw [List.length_map]; exact l
theorem io_spFO {α : Type} {n : Nat} {arg : α → List D} {pre : α → Prop} {post : α → List D → Prop} {io : List Nat} : ∀ ins Q R, spFO n arg pre post ins Q R → ∀ j o, Env.at ins j = .own o → j ∈ io := fun ins Q R ⟨a, e, l, p, k⟩ j o h => by subst e; exact (at_vs h).elim
/-- the first parameter an own list, changed -/
def spRF {α : Type} (n : Nat) (own : α → List D) (arg : α → List D) (pre : α → Prop) (post : α → D → List D → Prop) : SpD := fun ins Q _ => ∃ a, ins = .own (.lst (own a)) :: (arg a).map Sl.v ∧ (arg a).length = n ∧ pre a ∧ ∀ d ys, post a d ys → Q (.v d) (.own (.lst ys) :: List.replicate n .no)
theorem mono_spRF {α : Type} {n : Nat} {own arg : α → List D} {pre : α → Prop} {post : α → D → List D → Prop} : MonoSp (spRF n own arg pre post) := fun ins Q Q' R R' h1 h2 ⟨a, e, l, p, k⟩ => ⟨a, e, l, p, fun d ys h => h1 _ _ (k d ys h)⟩
theorem len_spRF {α : Type} {n : Nat} {own arg : α → List D} {pre : α → Prop} {post : α → D → List D → Prop} : ∀ ins Q R, spRF n own arg pre post ins Q R → ins.length = n + 1 := fun ins Q R ⟨a, e, l, p, k⟩ => by subst e; simp [l]
theorem io_spRF {α : Type} {n : Nat} {own arg : α → List D} {pre : α → Prop} {post : α → D → List D → Prop} : ∀ ins Q R, spRF n own arg pre post ins Q R → ∀ j o, Env.at ins j = .own o → j ∈ [0] := fun ins Q R ⟨a, e, l, p, k⟩ j o h => by
  subst e
  cases j with
  | zero => exact List.mem_cons_self
  | succ j => exact (at_vs h).elim
/-- __init__ -/
def spIF {α : Type} (C : Addr) (n : Nat) (arg : α → List D) (pre : α → Prop) (post : α → List Str → List D → Prop) : SpD := fun ins Q _ => ∃ dx a, ins = .own (.ins C dx [] []) :: (arg a).map Sl.v ∧ (arg a).length = n ∧ pre a ∧ ∀ ns xs, post a ns xs → Q (.v .non) (.own (.ins C dx ns xs) :: List.replicate n .no)
theorem mono_spIF {α : Type} {C : Addr} {n : Nat} {arg : α → List D} {pre : α → Prop} {post : α → List Str → List D → Prop} : MonoSp (spIF C n arg pre post) := fun ins Q Q' R R' h1 h2 ⟨dx, a, e, l, p, k⟩ => ⟨dx, a, e, l, p, fun ns xs h => h1 _ _ (k ns xs h)⟩
theorem len_spIF {α : Type} {C : Addr} {n : Nat} {arg : α → List D} {pre : α → Prop} {post : α → List Str → List D → Prop} : ∀ ins Q R, spIF C n arg pre post ins Q R → ins.length = n + 1 := fun ins Q R ⟨dx, a, e, l, p, k⟩ => by subst e; simp [l]
theorem io_spIF {α : Type} {C : Addr} {n : Nat} {arg : α → List D} {pre : α → Prop} {post : α → List Str → List D → Prop} : ∀ ins Q R, spIF C n arg pre post ins Q R → ∀ j o, Env.at ins j = .own o → j ∈ [0] := fun ins Q R ⟨dx, a, e, l, p, k⟩ j o h => by
  subst e
  cases j with
  | zero => exact List.mem_cons_self
  | succ j => exact (at_vs h).elim
/-- a loop over range(n) by an invariant of the turn -/
theorem forGo_rng {g : WG} {b : WS} {k : KS} (n : Nat) (I : Nat → Env → Prop) (step : ∀ i ρ, i < n → I i ρ → ∀ P : Env → Prop, (∀ ρ', I (i + 1) ρ' → P ρ') → g (.int i) ρ fun ρ1 => b ρ1 { k with nx := P, ct := P, bk := k.nx })
    (fin : ∀ ρ, I n ρ → k.nx ρ) {ρ : Env} (h : I 0 ρ) : forGo g b (rangeD 0 n) ρ k := by
  have main : ∀ m i ρ, i + m = n → I i ρ → forGo g b (rangeD i m) ρ k := by
    intro m
    induction m with
    | zero => intro i ρ e h; rw [Nat.add_zero] at e; subst e; exact fin ρ h
    | succ m ih =>
      intro i ρ e h
      exact step i ρ (by omega) h _ fun ρ' h' => by
        have := ih (i + 1) ρ' (by omega) h'
        rw [Int.natCast_add] at this
        exact this
  exact main n 0 ρ (by omega) h
theorem putK_intro : ∀ {ρ : Env} {i : Nat} {s : Sl} {k : Env → Prop}, i < ρ.length → noIns (Env.at ρ i) → k (Env.put ρ i s) → putK ρ i s k
  | [], _, _, _, h, _, _ => by simp at h
  | t :: r, 0, s, k, _, n, h => by
    cases t with
    | own o => cases o with
      | ins C dx ns ds => exact n.elim
      | _ => exact h
    | _ => exact h
  | t :: r, i + 1, s, k, h, n, q => putK_intro (ρ := r) (i := i) (by simpa using h) n q
theorem divOk_small {j : Int} (h : 0 < j) (h2 : j < 2 ^ 64) : DivOk j := ⟨h, by
  have : j.natAbs < 2 ^ 64 := by omega
  have := (Nat.log2_lt (n := j.natAbs) (k := 64) (by omega)).mpr this
  omega⟩
/-- a loop over range(lo, lo + n) -/
theorem forGo_rng2 {g : WG} {b : WS} {k : KS} (lo : Int) (n : Nat) (I : Nat → Env → Prop) (step : ∀ i ρ, i < n → I i ρ → ∀ P : Env → Prop, (∀ ρ', I (i + 1) ρ' → P ρ') → g (.int (lo + i)) ρ fun ρ1 => b ρ1 { k with nx := P, ct := P, bk := k.nx })
    (fin : ∀ ρ, I n ρ → k.nx ρ) {ρ : Env} (h : I 0 ρ) : forGo g b (rangeD lo n) ρ k := by
  have main : ∀ m i ρ, i + m = n → I i ρ → forGo g b (rangeD (lo + i) m) ρ k := by
    intro m
    induction m with
    | zero => intro i ρ e h; rw [Nat.add_zero] at e; subst e; exact fin ρ h
    | succ m ih =>
      intro i ρ e h
      exact step i ρ (by omega) h _ fun ρ' h' => by
        have := ih (i + 1) ρ' (by omega) h'
        rw [Int.natCast_add, ← Int.add_assoc] at this
        exact this
  have := main n 0 ρ (by omega) h
  rwa [show lo + ((0 : Nat) : Int) = lo by omega] at this
def seqD (b : Bool) (xs : List D) : D := match b with
  | true => .lst xs
  | false => .tup xs
/-- lists of tuples of ints, compared -/
theorem eqvAll_iff {α : Type} [DecidableEq α] (f : α → D) (h : ∀ x y, PyData.eqv (f x).pd (f y).pd = decide (x = y)) : ∀ xs ys : List α, PyData.eqvAll (pdAll (xs.map f)) (pdAll (ys.map f)) = decide (xs = ys)
  | [], [] => by simp [pdAll, PyData.eqvAll]
  | [], y :: ys => by simp [pdAll, PyData.eqvAll]
  | x :: xs, [] => by simp [pdAll, PyData.eqvAll]
  | x :: xs, y :: ys => by
    rw [List.map_cons, List.map_cons, pdAll, pdAll, PyData.eqvAll, eqvAll_iff f h xs ys, h]
    by_cases e : x = y
    · subst e; simp
    · simp [e]
theorem list_snoc {α : Type} (xs : List α) : xs = [] ∨ ∃ ys y, xs = ys ++ [y] := by
  rcases List.eq_nil_or_concat xs with h | ⟨ys, y, h⟩
  · exact .inl h
  · exact .inr ⟨ys, y, by rw [h, List.concat_eq_append]⟩
/-! isinstance's answers -/
theorem kit_cc {K : PySem.W.Frag} {C : Addr} : PySem.W.kitOne K (.ref C) (.ref C) = some true := by
  unfold PySem.W.kitOne
  rw [if_pos (by simp)]
theorem kit_cb {K : PySem.W.Frag} {C : Addr} {T : String} {r : Bool} (hm : PySem.W.kitMeta T = true) (m : PySem.W.mroIn K C (.type T) = some r) : PySem.W.kitOne K (.ref C) (.type T) = some r := by
  have n : (Value.ref C == Value.type T) = false := beq_false_of_ne (by intro h; cases h)
  unfold PySem.W.kitOne
  rw [n]
  show PySem.W.kitCls K (.ref C) (.type T) = some r
  unfold PySem.W.kitCls
  show (if PySem.W.kitMeta T = true then PySem.W.subIn K (.ref C) (.type T) else none) = some r
  rw [if_pos hm]
  exact m
theorem kit_bc {K : PySem.W.Frag} {C : Addr} {T : String} {base : Value} {r b : Bool} (m : PySem.W.mroIn K C base = some r) (ty : PySem.W.typeIn K (.ref C) = some (.type "type")) (h : (PySem.fastBuiltinMro T).map (·.contains (Value.ref C)) = some b) : PySem.W.kitOne K (.type T) (.ref C) = some b := by
  have hc : (PySem.W.clsIn K C).isSome = true := by
    unfold PySem.W.mroIn at m
    obtain ⟨cd, h1, _⟩ := Option.bind_eq_some_iff.mp m
    rw [h1]; rfl
  have n : (Value.type T == Value.ref C) = false := beq_false_of_ne (by intro h; cases h)
  unfold PySem.W.kitOne
  rw [n]
  show PySem.W.kitCls K (.type T) (.ref C) = some b
  unfold PySem.W.kitCls
  show (if ((PySem.W.clsIn K C).isSome && PySem.W.typeIn K (.ref C) == some (.type "type")) = true then PySem.W.subIn K (.type T) (.ref C) else none) = some b
  rw [if_pos (by rw [hc, ty]; simp)]
  exact h
theorem mro_no {T : String} {C : Addr} {l : List String} (h : PySem.fastBuiltinMro T = some (l.map Value.type)) : (PySem.fastBuiltinMro T).map (·.contains (Value.ref C)) = some false := by
  rw [h, Option.map_some]
  congr 1
  rw [List.contains_eq_any_beq, List.any_eq_false]
  intro x hx
  obtain ⟨s, _, rfl⟩ := List.mem_map.mp hx
  simp
theorem rangeD_snoc : ∀ (n : Nat) (lo : Int), rangeD lo (n + 1) = rangeD lo n ++ [.int (lo + n)]
  | 0, lo => by simp [rangeD]
  | n + 1, lo => by
    rw [rangeD, rangeD_snoc n (lo + 1)]
    simp only [rangeD, List.cons_append]
    congr 3
    congr 1
    omega
theorem revD_succ (lo : Int) (n : Nat) : revD lo (n + 1) = .int (lo + n) :: revD lo n := by
  unfold revD
  rw [rangeD_snoc, List.reverse_append]; rfl
/-- a loop over reversed(range(n)), by what is left -/
theorem forGo_rev {g : WG} {b : WS} {k : KS} (I : Nat → Env → Prop) (step : ∀ m ρ, I (m + 1) ρ → ∀ P : Env → Prop, (∀ ρ', I m ρ' → P ρ') → g (.int m) ρ fun ρ1 => b ρ1 { k with nx := P, ct := P, bk := k.nx })
    (fin : ∀ ρ, I 0 ρ → k.nx ρ) : ∀ (n : Nat) (ρ : Env), I n ρ → forGo g b (revD 0 n) ρ k
  | 0, ρ, h => fin ρ h
  | n + 1, ρ, h => by
    rw [revD_succ, Int.zero_add]
    exact step n ρ h _ fun ρ' h' => forGo_rev I step fin n ρ' h'
/-! ## raising an own exception that has no fields -/
def sRaise (C : Value) : WS := fun ρ k => k.ex ⟨C, [], []⟩ ρ
theorem ds_raise {X : Cx} {W : WW} {e : Expr} {C : Value} {pos : Pos} (hc : X.calm = true) (tk : Takes X W.x) (hp : PMk X e (fun _ H Q => Q C none H)) : DS X W (.Raise (some e) none pos) (sRaise C) :=
  ⟨_, ps_raise hc tk hp, fun fm H σ ρ k D r hf q e => e.ex _ σ H ρ C none q r (fun _ _ z => z) ⟨rfl, rfl, rfl⟩⟩
end DL

set_option Elab.async false
set_option linter.all false
set_option maxRecDepth 100000
namespace DL
open PySem L2

/-! ## try: .. except X: .. -/
def tOfB (K : PySem.W.Frag) (W : WW) (w : WS) : TS := fun D σ H => ∃ (fm : Fm) (ρ : Env) (k : KS), RS K fm H σ ρ ∧ (∀ p ∈ fm.F, p.1 ∈ W.io) ∧ w ρ k ∧ EndsOk K W fm (fm.hid σ ρ H) D k
theorem DB.pss {X : Cx} {W : WW} {ss : List Stmt} {w : WS} (h : DB X W ss w) : PSs X ss (tOfB X.K W w) := by
  obtain ⟨t, p, l⟩ := h.ex
  exact ⟨fun pins s σ H D I ⟨fm, ρ, k, r, hf, q, e⟩ => p.run pins s σ H D I (l fm H σ ρ k D r hf q e)⟩
/-- is it caught? -/
def exmD (cs yes : List Value) (x : Exn) (k : Bool → Prop) : Prop := x.cls ∈ cs ∧ (x.cls ∈ yes → k true) ∧ (x.cls ∉ yes → k false)
def sTry (cs yes : List Value) (b h : WS) : WS := fun ρ k => b ρ { k with ex := fun x ρ' => exmD cs yes x fun c => (c = true → h ρ' { k with ex := fun _ _ => False }) ∧ (c = false → k.ex x ρ') }
theorem ds_try {X : Cx} {W : WW} {x : Str} {c : Value} {cs yes : List Value} {body suite : List Stmt} {b₀ : Stmt} {wb wh : WS} {np pos' pos : Pos} (hs : X.stack = X.env :: X.outer) (hf : X.env.frame = some X.env.locals) (hc : Names X x c) (tk : Takes X W.x)
    (hb : ∀ (W' : WX) (pn : List (Addr × Obj)) (xe : Value → Shared → Prop), Takes (X.tr pn xe) W' → PassesOwn (model X.prog X.w) X.A X.env xe → DB (X.tr pn xe) ⟨W', W.io⟩ body wb)
    (hh : ∀ (a : Addr) (oe : Obj) (cls : Value) (d : Option Addr) (pn : List (Addr × Obj)), Zc cls d oe → (∃ vs, oe.data = .fields vs) → DB (X.suite a ((a, oe) :: pn)) W.no (b₀ :: suite) wh)
    (hy : ∀ v ∈ cs, PySem.W.exmOne X.K v c = some (decide (v ∈ yes))) : DS X W (.Try body [.ExceptHandler (some (.Name x np)) none (b₀ :: suite) pos'] [] [] pos) (sTry cs yes wb wh) := by
  refine ⟨_, ps_try_only (tb := fun W' => tOfB X.K ⟨W', W.io⟩ wb) (ts := fun _ _ _ => tOfB X.K W.no wh) hs hf hc tk (fun W' pn xe t p => (hb W' pn xe t p).pss) (fun a oe cls d pn z v => (hh a oe cls d pn z v).pss), fun fm H σ ρ k D r hF q e => ?_⟩
  refine ⟨fm, ρ, _, r, hF, q, e.nx, e.rt, e.bk, e.ct, fun ex σ' H' ρ' cls dd q' r' m er => ?_⟩
  obtain ⟨h1, h2, h3⟩ := q'
  have ec := er.1
  subst ec
  refine ⟨_, hy _ h1, fun hb a ha => ?_, fun hb => ?_⟩
  · have hy' : ex.cls ∈ yes := of_decide_eq_true hb
    exact ⟨fm, ρ', _, r', hF, (h2 hy').1 rfl, fun σ2 H2 ρ2 q2 r2 m2 => e.nx σ2 H2 ρ2 q2 r2 fun b o z => m2 b o (m b o z), fun v σ2 H2 s ρ2 q2 r2 m2 => e.rt v σ2 H2 s ρ2 q2 r2 fun b o z => m2 b o (m b o z),
      fun σ2 H2 ρ2 q2 r2 m2 => e.bk σ2 H2 ρ2 q2 r2 fun b o z => m2 b o (m b o z), fun σ2 H2 ρ2 q2 r2 m2 => e.ct σ2 H2 ρ2 q2 r2 fun b o z => m2 b o (m b o z), fun _ _ _ _ _ _ z => z.elim⟩
  · have hy' : ex.cls ∉ yes := of_decide_eq_false hb
    exact e.ex ex σ' H' ρ' _ dd ((h3 hy').2 rfl) r' m er
/-! ## try: .. except X as e: .. -/
def sTryAs (cs yes : List Value) (i : Nat) (b : WS) (h : Addr → Value → Option Addr → WS) : WS := fun ρ k => b ρ { k with ex := fun x ρ' => exmD cs yes x fun c =>
  (c = true → ∀ a dd, putK ρ' i (.v (.exc a x.cls dd x.ns x.xs)) fun ρ2 => h a x.cls dd ρ2 { nx := fun ρ3 => putK ρ3 i .no k.nx, rt := k.rt, bk := fun ρ3 => putK ρ3 i .no k.bk, ct := fun ρ3 => putK ρ3 i .no k.ct, ex := fun _ _ => False }) ∧ (c = false → k.ex x ρ') }
theorem exr_rep {K : PySem.W.Frag} {Hm H : Hp} {cls : Value} {dd : Option Addr} {x : Exn} (h : ExR K Hm H cls dd x) (hv : ∀ d fs, dd = some d → H d = some (.xd fs) → Hm d = some (.xd fs)) (a : Addr) : Rep K Hm (.ref a) (.exc a x.cls dd x.ns x.xs) := by
  obtain ⟨h1, h2⟩ := h
  cases dd with
  | none => rw [h2.1, h2.2]; exact .excN
  | some d =>
    obtain ⟨fs, e1, e2, e3⟩ := h2
    rw [← e2]
    exact .exc (hv d fs rfl e1) e3
theorem ds_tryAs {X : Cx} {W : WW} {x n : Str} {i : Nat} {c : Value} {cs yes : List Value} {body suite : List Stmt} {b₀ : Stmt} {wb : WS} {wh : Addr → Value → Option Addr → WS} {np pos' pos : Pos} (hs : X.stack = X.env :: X.outer) (hf : X.env.frame = some X.env.locals) (hN : X.N.Nodup) (hi : X.N[i]? = some n) (hln : X.env.kindOf n = some .local) (hio : i ∉ W.io) (hc : Names X x c) (tk : Takes X W.x)
    (hb : ∀ (W' : WX) (pn : List (Addr × Obj)) (xe : Value → Shared → Prop), Takes (X.tr pn xe) W' → PassesOwn (model X.prog X.w) X.A X.env xe → DB (X.tr pn xe) ⟨W', W.io⟩ body wb)
    (hh : ∀ (a : Addr) (oe : Obj) (cls : Value) (d : Option Addr) (pn : List (Addr × Obj)), Zc cls d oe → (∃ vs, oe.data = .fields vs) → DB (X.suite a ((a, oe) :: pn)) W.no (b₀ :: suite) (wh a cls d))
    (hy : ∀ v ∈ cs, PySem.W.exmOne X.K v c = some (decide (v ∈ yes))) : DS X W (.Try body [.ExceptHandler (some (.Name x np)) (some n) (b₀ :: suite) pos'] [] [] pos) (sTryAs cs yes i wb wh) := by
  refine ⟨_, ps_try_as (tb := fun W' => tOfB X.K ⟨W', W.io⟩ wb) (ts := fun a cls d => tOfB X.K W.no (wh a cls d)) hs hf hN hi hln hc tk (fun W' pn xe t p => (hb W' pn xe t p).pss) (fun a oe cls d pn z v => (hh a oe cls d pn z v).pss), fun fm H σ ρ k D r hF q e => ?_⟩
  refine ⟨fm, ρ, _, r, hF, q, e.nx, e.rt, e.bk, e.ct, fun ex σ' H' ρ' cls dd q' r' m er => ?_⟩
  obtain ⟨h1, h2, h3⟩ := q'
  have ec := er.1
  subst ec
  refine ⟨_, hy _ h1, fun hb a ha => ?_, fun hb => ?_⟩
  · have hy' : ex.cls ∈ yes := of_decide_eq_true hb
    have q2 := (h2 hy').1 rfl a dd
    obtain ⟨g1, g2, g3⟩ := putK_spec q2
    have rp : Rep X.K (fm.hid σ' ρ' H') (.ref a) (.exc a ex.cls dd ex.ns ex.xs) := exr_rep er (fun d fs _ hd => (hide_out fun z => by
      obtain ⟨⟨o, ho, w⟩, _⟩ := r'.tr d z
      rw [hd] at ho; cases ho; exact w).trans hd) a
    have r2 := r'.put (x := some (.ref a)) (s := .v (.exc a ex.cls dd ex.ns ex.xs)) g1 (io_ne hF hio) g2 rp
    have m2 := put_mo (fm := fm) (H := H') (x := some (.ref a)) (s := .v (.exc a ex.cls dd ex.ns ex.xs)) r'.len g1
    rw [slotAs_v] at m2
    -- at the suite's ends the name is gone
    refine ⟨fm, _, _, r2, hF, g3, fun σ2 H2 ρ2 q3 r3 m3 => ?_, fun v σ2 H2 s ρ2 q3 r3 m3 => e.rt v σ2 H2 s ρ2 q3 r3 fun b o z => m3 b o (m2 b o (m b o z)), fun σ2 H2 ρ2 q3 r3 m3 => ?_, fun σ2 H2 ρ2 q3 r3 m3 => ?_, fun _ _ _ _ _ _ z => z.elim⟩
    · obtain ⟨u1, u2, u3⟩ := putK_spec q3
      have r4 := r3.put (x := none) (s := .no) u1 (io_ne hF hio) u2 trivial
      have m4 := put_mo (fm := fm) (H := H2) (x := none) (s := .no) r3.len u1
      rw [slotAs_no] at m4
      exact e.nx _ H2 _ u3 r4 fun b o z => m4 b o (m3 b o (m2 b o (m b o z)))
    · obtain ⟨u1, u2, u3⟩ := putK_spec q3
      have r4 := r3.put (x := none) (s := .no) u1 (io_ne hF hio) u2 trivial
      have m4 := put_mo (fm := fm) (H := H2) (x := none) (s := .no) r3.len u1
      rw [slotAs_no] at m4
      exact e.bk _ H2 _ u3 r4 fun b o z => m4 b o (m3 b o (m2 b o (m b o z)))
    · obtain ⟨u1, u2, u3⟩ := putK_spec q3
      have r4 := r3.put (x := none) (s := .no) u1 (io_ne hF hio) u2 trivial
      have m4 := put_mo (fm := fm) (H := H2) (x := none) (s := .no) r3.len u1
      rw [slotAs_no] at m4
      exact e.ct _ H2 _ u3 r4 fun b o z => m4 b o (m3 b o (m2 b o (m b o z)))
  · have hy' : ex.cls ∉ yes := of_decide_eq_false hb
    exact e.ex ex σ' H' ρ' _ dd ((h3 hy').2 rfl) r' m er
/-- a field of the caught exception -/
def xfD (a : Addr) (cls : Value) (d : Option Addr) (C : Addr) (f : Str) (z : D) (k : D → Prop) : Prop := match z with
  | .exc a' _ d' ns xs => a' = a ∧ d' = d ∧ cls = .ref C ∧ (match lookD ns xs f with | some v => k v | none => False)
  | _ => False
def wXf (a : Addr) (cls : Value) (d : Option Addr) (C : Addr) (f : Str) (e : WE) : WE := fun ρ Q R => e ρ (fun z ρ1 => xfD a cls d C f z fun v => Q v ρ1) R
theorem de_xf {X : Cx} {W : WW} {a C : Addr} {oe : Obj} {cls : Value} {d : Option Addr} {pn : List (Addr × Obj)} {e : Expr} {we : WE} {pos : Pos} {n : Str} (T : XfC X.K C) (hno : PySem.W.findIn X.K (.ref C) n = some none)
    (hz : Zc cls d oe) (hf : ∃ vs, oe.data = .fields vs) (he : DE (X.suite a ((a, oe) :: pn)) W e we) (hb : attributeBase e n X.env (eval e X.env) = eval e X.env := by rfl) : DE (X.suite a ((a, oe) :: pn)) W (.Attribute e n pos) (wXf a cls d C n we) := by
  obtain ⟨t, p, l⟩ := he.ex
  refine ⟨_, pe_xf T hno hz hf p hb, fun fm H σ ρ Q R QV s q x k => l fm H σ ρ _ R _ s q x fun v H1 z ρ1 q1 g1 r1 => ?_⟩
  cases z <;> first | exact q1.elim | skip
  rename_i a' cls' d' ns xs
  obtain ⟨rfl, rfl, rfl, q1⟩ := q1
  cases r1 with
  | excN => exact q1.elim
  | exc h1 h2 =>
    rename_i dd fs
    cases e : lookD (fs.map (·.1)) xs n with
    | none => rw [e] at q1; exact q1.elim
    | some y =>
      rw [e] at q1
      obtain ⟨v, e1, e2⟩ := lookD_spec h2 e
      exact ⟨rfl, rfl, dd, fs, v, rfl, hid_le _ _ h1, e1, k v H1 y ρ1 q1 g1 e2⟩
/-! ## own lists on two ways, a slot's own list given away -/
def wIfO (t : WT) (a b : WO) : WO := fun ρ Q R => t ρ (fun c ρ1 => (c = true → a ρ1 Q R) ∧ (c = false → b ρ1 Q R)) R
theorem do_if {X : Cx} {W : WW} {c a b : Expr} {pos : Pos} {t : WT} {wa wb : WO} (h : DT X W c t) (ha : DO X W a wa) (hb : DO X W b wb) : DO X W (.IfExp c a b pos) (wIfO t wa wb) := by
  obtain ⟨tc, pc, lc⟩ := h.ex
  obtain ⟨ta, pa, la⟩ := ha.ex
  obtain ⟨tb, pb, lb⟩ := hb.ex
  refine ⟨_, pe_ifExp pc pa pb, fun fm H σ ρ Q R QV s q x k => lc fm H σ ρ _ R _ s q x fun c H1 ρ1 q1 g1 => ?_⟩
  cases c with
  | true => rw [if_pos rfl]; exact la fm H1 σ ρ1 Q R QV g1.rs (q1.1 rfl) (x.to g1) fun p H2 o ρ2 q2 n => k p H2 o ρ2 q2 (.of g1 n)
  | false => rw [if_neg (by decide)]; exact lb fm H1 σ ρ1 Q R QV g1.rs (q1.2 rfl) (x.to g1) fun p H2 o ρ2 q2 n => k p H2 o ρ2 q2 (.of g1 n)
theorem do_take {X : Cx} {W : WW} {e : Expr} (i : Nat) (h : PE X e (tVar i)) : DO X W e (fun ρ Q _ => takeK ρ i fun o ρ' => Q o ρ') := by
  refine ⟨_, h, fun fm H σ ρ Q R QV s q x k => ?_⟩
  obtain ⟨o, h1, h2, h3⟩ := takeK_spec q
  obtain ⟨a, hv⟩ := s.own_at h1
  obtain ⟨t1, t2, t3⟩ := s.take hv h1 h2
  refine ⟨.ref a, hv, k a H o _ h3 ⟨⟨t1.ex_weak h2 (OwnAt.kind h2 t2), ⟨fun b u hb _ => hb, fun b hb => ?_⟩⟩, t1, t3, t2⟩⟩
  have P := owned_put_perm (some (.ref a)) .no σ ρ i (List.getElem?_eq_some_iff.mp hv).1 (at_lt h1)
  rw [set_self hv, slotAs_no] at P
  exact (owned_none_sub σ ρ i).subset (P.mem_iff.mp hb)
end DL

set_option Elab.async false
set_option linter.all false
set_option maxRecDepth 100000
namespace DL
open PySem L2

/-! ## built-ins over a list of whole numbers, of truths -/
def sumL : OL := fun ds k => match ds with | [.lst xs] => ∃ ns : List Int, xs = ns.map D.int ∧ k (.int ns.sum) | _ => False
def allL : OL := fun ds k => match ds with | [.lst xs] => ∃ bs : List Bool, xs = bs.map D.bl ∧ k (.bl (bs.all id)) | _ => False
def anyL : OL := fun ds k => match ds with | [.lst xs] => ∃ bs : List Bool, xs = bs.map D.bl ∧ k (.bl (bs.any id)) | _ => False
def max1L : OL := fun ds k => match ds with | [.lst xs] => ∃ ns : List Int, xs = ns.map D.int ∧ 0 < ns.length ∧ ∀ m, m ∈ ns → (∀ y, y ∈ ns → y ≤ m) → k (.int m) | _ => False
def min1L : OL := fun ds k => match ds with | [.lst xs] => ∃ ns : List Int, xs = ns.map D.int ∧ 0 < ns.length ∧ ∀ m, m ∈ ns → (∀ y, y ∈ ns → m ≤ y) → k (.int m) | _ => False
section
variable {X : Cx} {W : WW} {K : PySem.W.Frag}
theorem reps_int_inv {H : Hp} : ∀ {ns : List Int} {vs : List V}, Reps K H vs (ns.map D.int) → vs = ns.map V.int
  | [], _, h => by cases h; rfl
  | n :: ns, _, h => by
    cases h with
    | cons h1 h2 => cases h1; rw [reps_int_inv h2]; rfl
theorem reps_bl_inv {H : Hp} : ∀ {bs : List Bool} {vs : List V}, Reps K H vs (bs.map D.bl) → vs = bs.map V.bl
  | [], _, h => by cases h; rfl
  | n :: ns, _, h => by
    cases h with
    | cons h1 h2 => cases h1; rw [reps_bl_inv h2]; rfl
theorem ints_sq {A : List Addr} {H : Hp} {xs : List V} {ns : List Int} (r : Reps K (hide A H) xs [.lst (ns.map D.int)]) : ∃ a, xs = [.ref a] ∧ SqL K H a (ns.map V.int) := by
  obtain ⟨x, rfl, r1⟩ := reps1 r
  obtain ⟨a, vs, rfl, h1, h2⟩ := r1.lst_inv
  rw [reps_int_inv h2] at h1
  exact ⟨a, rfl, .inl (rd_mono hid_le h1)⟩
theorem bls_sq {A : List Addr} {H : Hp} {xs : List V} {ns : List Bool} (r : Reps K (hide A H) xs [.lst (ns.map D.bl)]) : ∃ a, xs = [.ref a] ∧ SqL K H a (ns.map V.bl) := by
  obtain ⟨x, rfl, r1⟩ := reps1 r
  obtain ⟨a, vs, rfl, h1, h2⟩ := r1.lst_inv
  rw [reps_bl_inv h2] at h1
  exact ⟨a, rfl, .inl (rd_mono hid_le h1)⟩
theorem sum_s : ClS K (rSum K) sumL := fun A H xs ds k Q tr r q f => by
  match ds, q with
  | [.lst zs], q =>
    obtain ⟨ns, rfl, q⟩ := q
    obtain ⟨a, rfl, h⟩ := ints_sq r
    exact ⟨a, ns, rfl, h, f _ _ H q (.refl H) (.int _)⟩
theorem all_s : ClS K (rAll K) allL := fun A H xs ds k Q tr r q f => by
  match ds, q with
  | [.lst zs], q =>
    obtain ⟨ns, rfl, q⟩ := q
    obtain ⟨a, rfl, h⟩ := bls_sq r
    exact ⟨a, ns, rfl, h, f _ _ H q (.refl H) (.bl _)⟩
theorem any_s : ClS K (rAny K) anyL := fun A H xs ds k Q tr r q f => by
  match ds, q with
  | [.lst zs], q =>
    obtain ⟨ns, rfl, q⟩ := q
    obtain ⟨a, rfl, h⟩ := bls_sq r
    exact ⟨a, ns, rfl, h, f _ _ H q (.refl H) (.bl _)⟩
theorem max1_s : ClS K (rMax K) max1L := fun A H xs ds k Q tr r q f => by
  match ds, q with
  | [.lst zs], q =>
    obtain ⟨ns, rfl, q0, q⟩ := q
    obtain ⟨a, rfl, h⟩ := ints_sq r
    exact ⟨a, ns, rfl, h, q0, fun m h1 h2 => f _ _ H (q m h1 h2) (.refl H) (.int _)⟩
theorem min1_s : ClS K (rMin K) min1L := fun A H xs ds k Q tr r q f => by
  match ds, q with
  | [.lst zs], q =>
    obtain ⟨ns, rfl, q0, q⟩ := q
    obtain ⟨a, rfl, h⟩ := ints_sq r
    exact ⟨a, ns, rfl, h, q0, fun m h1 h2 => f _ _ H (q m h1 h2) (.refl H) (.int _)⟩
/-! ## methods of a list that is data -/
/-- x.m(args) of a list, by values -/
def MvS (K : PySem.W.Frag) (r : V → List V → Hp → VK → Prop) (o : List D → List D → (D → Prop) → Prop) : Prop :=
  ∀ (H Hm : Hp) (l : Addr) (vs : List V) (xs : List D) (ws : List V) (ds : List D) (k : D → Prop) (Q : VK), Rd H l (.lst vs) → Reps K Hm vs xs → Reps K Hm ws ds → o xs ds k →
    (∀ v d, k d → Rep K Hm v d → Q v H) → r (.ref l) ws H Q
def wBm (o : List D → List D → (D → Prop) → Prop) (a : WE) (b : WA) : WE := fun ρ Q R => a ρ (fun d ρ1 => b ρ1 (fun ds ρ2 => lstD d fun xs => o xs ds fun z => Q z ρ2) R) R
/-- xs.index(v) of whole numbers: what is there -/
def idxL : List D → List D → (D → Prop) → Prop := fun xs ds k => ∃ (ns : List Int) (v : Int) (j : Nat), xs = ns.map D.int ∧ ds = [.int v] ∧ ns[j]? = some v ∧ (∀ (m : Nat) (z : Int), m < j → ns[m]? = some z → z ≠ v) ∧ k (.int j)
theorem idx_s : MvS K (rIndex K) idxL := fun H Hm l vs xs ws ds k Q h r1 r2 q f => by
  obtain ⟨ns, v, j, rfl, rfl, hj, hno, q⟩ := q
  have e1 := reps_int_inv r1
  obtain ⟨y, rfl, r3⟩ := reps1 r2
  cases r3
  subst e1
  refine ⟨l, _, .int v, j, .int v, rfl, rfl, .inl h, rfl, ?_, ?_, ?_, fun m z' hm hz => ?_, f _ _ q (.int _)⟩
  · rw [List.all_eq_true]
    intro x hx
    obtain ⟨n, _, rfl⟩ := List.mem_map.mp hx
    rfl
  · rw [List.getElem?_map, hj]; rfl
  · show (v == v) = true; simp
  · rw [List.getElem?_map] at hz
    cases e : ns[m]? with
    | none => rw [e] at hz; cases hz
    | some n =>
      rw [e] at hz; cases hz
      show (n == v) = false
      exact beq_false_of_ne (hno m n hm e)
/-- x.index(v) where x stands in a slot -/
theorem de_index {ox : Expr} {cpos apos : Pos} {e : Expr} {wa : WE} {i : Nat} (ho : PE X ox (tVar i)) (ha : DE X W e wa)
    (hbase : attributeBase ox "index" X.env (eval ox X.env) = eval ox X.env := by rfl) (hst : starEach [e] X.env = [(false, eval e X.env)] := by rfl) (hline : (apos.endLine == cpos.line) = true := by rfl) :
    DE X W (.Call (.Attribute ox "index" apos) [e] [] cpos) (fun ρ Q R => valOf (ρ.at i) (fun d => ∃ xs, d = .lst xs) ∧ wBm idxL (wVar i) (waCons wa waNil) ρ Q R) := by
  obtain ⟨t, pt, l⟩ := (da_cons ha da_nil hst : DA X W [e] _).ex
  have ho' := de_var (W := W) i ho
  obtain ⟨to, po, lo⟩ := ho'.ex
  refine ⟨_, pe_bm PySem.F.plainAttrs_list PySem.F.slot_list_index PySem.F.type_list_index mt_index po pt hbase (by rw [hst]; rfl) hline hst rfl, fun fm H σ ρ Q R QV s q x k => ?_⟩
  obtain ⟨q0, q⟩ := q
  refine lo fm H σ ρ (fun d ρ1 => (∃ xs, d = .lst xs) ∧ waCons wa waNil ρ1 (fun ds ρ2 => lstD d fun xs => idxL xs ds fun z => Q z ρ2) R) R _ s ?_ x fun v H1 d ρ1 q1 g1 r1 => ?_
  · unfold wBm at q
    unfold wVar at q ⊢
    cases e : Env.at ρ i with
    | v d => rw [e] at q q0; exact ⟨q0, q⟩
    | own o => rw [e] at q0; exact q0.elim
    | no => rw [e] at q0; exact q0.elim
  · obtain ⟨⟨xs, rfl⟩, q1⟩ := q1
    obtain ⟨p, vs, rfl, h1, h2⟩ := r1.lst_inv
    refine ⟨.inl ⟨rfl, vs, .inl (rd_mono hid_le h1)⟩, l fm H1 σ ρ1 _ R _ g1.rs q1 (x.to g1) fun ws H2 ds ρ2 q2 g2 r2 => ?_⟩
    obtain ⟨p', vs', e', h1', h2'⟩ := (g2.go.rep r1).lst_inv
    cases e'
    exact idx_s H2 _ p vs' xs ws ds _ _ (rd_mono hid_le h1') h2' r2 (show idxL xs ds (fun z => Q z ρ2) from q2) fun v d qk rv => k v H2 d ρ2 qk (g1.trans g2) rv
/-! ## errors of the program's own that have no fields -/
/-- a class of errors: it stands under ValueError, has no __init__ of its own -/
structure ErrS (K : PySem.W.Frag) (mg : Str → Option Value) (x : Str) (A : Addr) : Prop where
  mg : mg x = some (.ref A)
  kp : PySem.W.keepIn K (.ref A) = true
  ex : PySem.W.excIn K A [.type "ValueError", .type "Exception", .type "BaseException", .type "object"] "ValueError.__new__" = true
  sub : PySem.W.subIn K (.ref A) (.type "BaseException") = some true
  ty : PySem.W.typeIn K (.ref A) = some (.type "type")
  me : PySem.W.exmOne K (.ref A) (.ref A) = some true
theorem ErrS.names {x : Str} {A : Addr} (E : ErrS X.K X.mg x A) (hg : Gl X x) (hd : (x == ("__debug__" : Str)) = false := by decide) : Names X x (.ref A) := ⟨hg, hd, .inl E.mg⟩
theorem ErrS.one {mg : Str → Option Value} {x : Str} {A : Addr} (E : ErrS K mg x A) : ∀ v ∈ [Value.ref A], PySem.W.exmOne K v (.ref A) = some (decide (v ∈ [Value.ref A])) := fun v h => by
  rw [List.mem_singleton.mp h, E.me]; simp
/-- raise X('..') -/
theorem ds_raiseE {x m : Str} {A : Addr} {j : Nat} {p p2 pos pos2 : Pos} (hc : X.calm = true) (tk : Takes X W.x) (E : ErrS X.K X.mg x A) (hg : Gl X x) (hd : (x == ("__debug__" : Str)) = false := by decide) :
    DS X W (.Raise (some (.Call (.Name x p) [.Constant (.str m) j p2] [] pos)) none pos2) (sRaise (.ref A)) :=
  ds_raise hc tk (pmk_own PySem.F.excBase_ValueError E.ex E.mg E.kp (raises_own E.sub E.ty) hg hd)
/-- a def that only raises: what is handed in, and the error -/
def spX {α : Type} (n : Nat) (arg : α → List D) (pre : α → Prop) (x : α → Exn → Prop) : SpD := fun ins _ R => ∃ a, ins = (arg a).map Sl.v ∧ (arg a).length = n ∧ pre a ∧ ∀ e, x a e → R e (List.replicate n .no)
theorem mono_spX {α : Type} {n : Nat} {arg : α → List D} {pre : α → Prop} {x : α → Exn → Prop} : MonoSp (spX n arg pre x) := fun ins Q Q' R R' h1 h2 ⟨a, e, l, p, k⟩ => ⟨a, e, l, p, fun d h => h2 _ _ (k d h)⟩
theorem len_spX {α : Type} {n : Nat} {arg : α → List D} {pre : α → Prop} {x : α → Exn → Prop} : ∀ ins Q R, spX n arg pre x ins Q R → ins.length = n := fun ins Q R ⟨a, e, l, p, k⟩ => by subst e; rw [List.length_map]; exact l
theorem io_spX {α : Type} {n : Nat} {arg : α → List D} {pre : α → Prop} {x : α → Exn → Prop} {io : List Nat} : ∀ ins Q R, spX n arg pre x ins Q R → ∀ j o, Env.at ins j = .own o → j ∈ io := fun ins Q R ⟨a, e, l, p, k⟩ j o h => by subst e; exact (at_vs h).elim
/-- a def that gives values, or raises: which, tells b -/
def spFX {α : Type} (n : Nat) (arg : α → List D) (pre : α → Prop) (b : α → Bool) (post : α → D → Prop) (x : α → Exn → Prop) : SpD := fun ins Q R => ∃ a, ins = (arg a).map Sl.v ∧ (arg a).length = n ∧ pre a ∧ (b a = true → ∀ d, post a d → Q (.v d) (List.replicate n .no)) ∧ (b a = false → ∀ e, x a e → R e (List.replicate n .no))
theorem mono_spFX {α : Type} {n : Nat} {arg : α → List D} {pre : α → Prop} {b : α → Bool} {post : α → D → Prop} {x : α → Exn → Prop} : MonoSp (spFX n arg pre b post x) := fun ins Q Q' R R' h1 h2 ⟨a, e, l, p, k1, k2⟩ => ⟨a, e, l, p, fun hb d h => h1 _ _ (k1 hb d h), fun hb d h => h2 _ _ (k2 hb d h)⟩
theorem len_spFX {α : Type} {n : Nat} {arg : α → List D} {pre : α → Prop} {b : α → Bool} {post : α → D → Prop} {x : α → Exn → Prop} : ∀ ins Q R, spFX n arg pre b post x ins Q R → ins.length = n := fun ins Q R ⟨a, e, l, p, k⟩ => by subst e; rw [List.length_map]; exact l
theorem io_spFX {α : Type} {n : Nat} {arg : α → List D} {pre : α → Prop} {b : α → Bool} {post : α → D → Prop} {x : α → Exn → Prop} {io : List Nat} : ∀ ins Q R, spFX n arg pre b post x ins Q R → ∀ j o, Env.at ins j = .own o → j ∈ io := fun ins Q R ⟨a, e, l, p, k⟩ j o h => by subst e; exact (at_vs h).elim
/-- either promise -/
def spOR (s t : SpD) : SpD := fun ins Q R => s ins Q R ∨ t ins Q R
theorem mono_spOR {s t : SpD} (m1 : MonoSp s) (m2 : MonoSp t) : MonoSp (spOR s t) := fun ins Q Q' R R' h1 h2 h => h.elim (fun h => .inl (m1 ins Q Q' R R' h1 h2 h)) fun h => .inr (m2 ins Q Q' R R' h1 h2 h)
theorem fnOk_or {P : Program} {w : World} {mg : Str → Option Value} {base : Heap} {k : Nat} {f : Addr} {fd : FuncData} {ps : List Str} {s t : SpD} (F1 : FnOk P w K mg base (L2.CX P w) k f fd ps (spOf K s)) (F2 : FnOk P w K mg base (L2.CX P w) k f fd ps (spOf K t)) :
    FnOk P w K mg base (L2.CX P w) k f fd ps (spOf K (spOR s t)) := by
  refine ⟨fun vs H Q E h => ?_, fun A outer s H args us vs Q E hr he hb hv h => ?_⟩
  · obtain ⟨ins, r, h⟩ := h
    exact h.elim (fun h => F1.len _ _ _ _ ⟨ins, r, h⟩) fun h => F2.len _ _ _ _ ⟨ins, r, h⟩
  · obtain ⟨ins, r, h⟩ := h
    exact h.elim (fun h => F1.run A outer s H args us vs Q E hr he hb hv ⟨ins, r, h⟩) fun h => F2.run A outer s H args us vs Q E hr he hb hv ⟨ins, r, h⟩
theorem cal_or {P : Program} {w : World} {mg : Str → Option Value} {base : Heap} {k : Nat} {x : Str} {f : Addr} {fd : FuncData} {ps : List Str} {s t : SpD} (F1 : FnOk P w K mg base (L2.CX P w) k f fd ps (spOf K s)) (F2 : FnOk P w K mg base (L2.CX P w) k f fd ps (spOf K t))
    (c : Cal P w K mg base k x ps s) (m2 : MonoSp t) (hm : mg x = some (.ref f)) (kp : PySem.W.keepIn K (.ref f) = true) (hb : Binds K fd ps []) : Cal P w K mg base k x ps (spOR s t) :=
  ⟨⟨f, fd, fnOk_or F1 F2, hm, kp, hb⟩, mono_spOR c.mo m2⟩
end
end DL

set_option Elab.async false
set_option linter.all false
set_option maxRecDepth 100000
namespace DL
open PySem L2

/-! ## == by an own __eq__, of two instances of its class -/
def tEqF (C : Addr) (sp : Sp) (W : WX) (ta tb : TE) : TE := fun σ H Q => ta σ H fun x H1 => tb σ H1 fun y H2 => ((∃ a dx fs, x = .ref a ∧ H2 a = some (.ins C dx fs)) ∧ ∃ b dy gs, y = .ref b ∧ H2 b = some (.ins C dy gs)) ∧
  ∃ A, HidOk A H2 ∧ sp [x, y] (hide A H2) (fun v H' => (∀ a ∈ A, H' a = none) → (∃ z, v = .bl z) ∧ Q v (over A H2 H')) fun cls dd H' => (∀ a ∈ A, H' a = none) → W cls dd σ (over A H2 H')
section
variable {X : Cx} {W : WX} {k : Nat} {f C : Addr} {fd : FuncData} {ps : List Str} {sp : Sp} {pos : Pos} {a b : Expr} {ta tb : TE}
theorem pe_eqF (ha : PE X a ta) (hb : PE X b tb) (hs : PySem.W.findIn X.K (.ref C) "__eq__" = some (some (.ref f))) (hfn : PySem.W.isFn X.K (.ref f) = true)
    (F : FnOk X.prog X.w X.K X.mg X.base (L2.CX X.prog X.w) k f fd ps sp) (hr : Room k X.A) (hbi : Binds X.K fd ps []) (tk : Takes X W) (hm : behindInMarks .Eq b = false) :
    PE X (.Compare a [.Eq] [b] pos) (tEqF C sp W ta tb) := by
  refine ⟨fun pins s σ H Q I h => ?_⟩
  refine wpAny_Compare1 (binT ha hb I h fun v u s2 x y H2 I2 rx ry q => ?_) hm
  obtain ⟨⟨⟨p, dx, fs, rfl, ea⟩, p', dy, gs, rfl, eb⟩, A, ho, q⟩ := q
  obtain rfl : v = Value.ref p := rx
  obtain rfl : u = Value.ref p' := ry
  obtain ⟨mA, J, _⟩ := ins_get I2.hok ea
  obtain ⟨mB, J', _⟩ := ins_get I2.hok eb
  obtain ⟨od, J, _⟩ := J.look
  obtain ⟨od', J', _⟩ := J'.look
  obtain ⟨m, hF⟩ := I2.fr
  show wpAny (model X.prog X.w) X.A (richCompare .Eq (.ref p) (.ref p')) (EP X pins σ Q) X.xe s2
  refine PySem.W.cmp_K (op := .Eq) (tb := .ref C) hr.units0 hF I2.ok.mod.kin J J'.type (by simp [PySem.W.notFirst]) hs hfn ?_
  refine wpAny_mono (run_frame (us := [.ref p, .ref p']) (vs := [.ref p, .ref p']) (Q := fun v H => (∃ z, v = .bl z) ∧ Q v H) F hr hbi .nil tk I2 (.cons rfl (.cons rfl .nil)) ho q) (fun z s' hz => ?_) fun _ _ e => e
  obtain ⟨v, H', I', rv, ⟨t, rfl⟩, q'⟩ := hz
  cases rv
  exact ⟨.bl t, H', I', rfl, q'⟩
end
def wEqO (sp : SpD) (C : Addr) (a b : WE) : WE := fun ρ Q R => a ρ (fun d ρ1 => b ρ1 (fun e ρ2 => (isC C d ∧ isC C e) ∧ spK sp [.v d, .v e] ρ2 (fun r ρ' => r.asD fun z => blOf z fun t => Q (.bl t) ρ') R) R) R
section
variable {K : PySem.W.Frag} {W : WW}
theorem isC_inv {H : Hp} {C : Addr} {v : V} {d : D} (h : isC C d) (r : Rep K H v d) : ∃ a dx fs, v = .ref a ∧ H a = some (.ins C dx fs) := by
  cases d <;> first | exact h.elim | skip
  rename_i C' ns xs
  obtain rfl := h
  obtain ⟨b, dx, fs, rfl, hb, _⟩ := r.obj_inv
  exact ⟨b, dx, fs, rfl, hb⟩
theorem le_eqO {sp : SpD} {C : Addr} {ta tb : TE} {a b : WE} (mo : MonoSp sp) (ha : LE K W ta a) (hb : LE K W tb b) : LE K W (tEqF C (spOf K sp) W.x ta tb) (wEqO sp C a b) := fun fm H σ ρ Q R QV s q x k =>
  ha fm H σ ρ _ R _ s q x fun v H1 d ρ1 q1 g1 r1 => hb fm H1 σ ρ1 _ R _ g1.rs q1 (x.to g1) fun u H2 i ρ2 q2 g2 r2 => by
    have g12 := g1.trans g2
    have r1' := g2.go.rep r1
    refine ⟨⟨?_, ?_⟩, call_core mo g12.rs (as := [.v d, .v i]) ⟨r1', r2, trivial⟩ (QV := fun v H => (∃ z, v = .bl z) ∧ QV v H) (k1 := fun z ρ' => blOf z fun t => Q (.bl t) ρ') (k2 := fun _ _ => False) _ (fun r ρ' h => ?_) (fun v H' d ρ' q' g' rv => ?_)
      (fun p H' o ρ' q' n => q'.elim) q2.2 (x.to g12)⟩
    · obtain ⟨p, dx, fs, e, h⟩ := isC_inv q2.1.1 r1'
      exact ⟨p, dx, fs, e, hid_le _ _ h⟩
    · obtain ⟨p, dx, fs, e, h⟩ := isC_inv q2.1.2 r2
      exact ⟨p, dx, fs, e, hid_le _ _ h⟩
    · cases r with
      | v d => exact h
      | own o => exact (by cases o <;> exact h.2.elim)
      | no => exact h
    · cases d <;> first | exact q'.elim | skip
      cases rv
      exact ⟨⟨_, rfl⟩, k _ H' _ ρ' q' (g12.trans g') (.bl _)⟩
end
section
variable {X : Cx} {W : WW} {k : Nat} {f C : Addr} {fd : FuncData} {ps : List Str} {sp : SpD} {pos : Pos} {a b : Expr} {wa wb : WE}
/-- an own __eq__, as it is called -/
structure CalE (P : Program) (w : World) (K : PySem.W.Frag) (mg : Str → Option Value) (base : Heap) (C : Addr) (k : Nat) (ps : List Str) (sp : SpD) : Prop where
  ex : ∃ f fd, FnOk P w K mg base (L2.CX P w) k f fd ps (spOf K sp) ∧ PySem.W.findIn K (.ref C) "__eq__" = some (some (.ref f)) ∧ PySem.W.isFn K (.ref f) = true ∧ Binds K fd ps []
  mo : MonoSp sp
theorem de_eqO (c : CalE X.prog X.w X.K X.mg X.base C k ps sp) (ha : DE X W a wa) (hb : DE X W b wb) (hr : Room k X.A) (tk : Takes X W.x) (hm : behindInMarks .Eq b = false) : DE X W (.Compare a [.Eq] [b] pos) (wEqO sp C wa wb) := by
  obtain ⟨f, fd, F, h1, h2, hbi⟩ := c.ex
  obtain ⟨t, p1, l⟩ := hb.ex
  obtain ⟨t0, p0, l0⟩ := ha.ex
  exact ⟨_, pe_eqF p0 p1 h1 h2 F hr hbi tk hm, le_eqO c.mo l0 l⟩
end
end DL

set_option Elab.async false
set_option linter.all false
set_option maxRecDepth 100000
namespace DL
open PySem L2

/-! ## the truth of an instance whose class has no __bool__ and no __len__ -/
def wTruC (C : Addr) (a : WE) : WT := fun ρ Q R => a ρ (fun d ρ1 => isC C d ∧ Q true ρ1) R
section
variable {X : Cx} {W : WW} {C : Addr}
theorem tru_ins (hb : NoAttr X.K C "__bool__") (hl : NoAttr X.K C "__len__") : TruR X (fun x H Q => ∃ a dx fs, x = .ref a ∧ H a = some (.ins C dx fs) ∧ Q true H) := by
  intro pins s σ H x v Q I rx h
  obtain ⟨a, dx, fs, rfl, ea, q⟩ := h
  obtain rfl : v = Value.ref a := rx
  obtain ⟨mA, J, _⟩ := ins_get I.hok ea
  obtain ⟨od, J, _⟩ := J.look
  obtain ⟨m, hF⟩ := I.fr
  exact PySem.W.truthy_K0 hF I.ok.mod.kin J hb hl ⟨H, I, q⟩
theorem dt_truC {a : Expr} {w : WE} (hb : NoAttr X.K C "__bool__") (hl : NoAttr X.K C "__len__") (h : DE X W a w) (he : ∀ whole, isTrue a X.env whole = (do let v ← whole; standAt a.pos; holding [v] (truthy v))) : DT X W a (wTruC C w) := by
  obtain ⟨t, p, l⟩ := h.ex
  refine ⟨_, pt_truthR p (tru_ins hb hl) he, fun fm H σ ρ Q R QV s q x k => l fm H σ ρ _ R _ s q x fun v H1 d ρ1 q1 g1 r1 => ?_⟩
  obtain ⟨b, dx, fs, rfl, hb'⟩ := isC_inv q1.1 r1
  exact ⟨b, dx, fs, rfl, hid_le _ _ hb', k true H1 ρ1 q1.2 g1⟩
end

/-! ## min of a list of pairs of whole numbers -/
def pairP (p : Int × Int) : PyData := .tuple [.int p.1, .int p.2]
def minP (p : Int × Int) (ps : List (Int × Int)) : Int × Int := ps.foldl (fun a y => if y.1 < a.1 ∨ (y.1 = a.1 ∧ y.2 < a.2) then y else a) p
theorem minD_pairs : ∀ (ps : List (Int × Int)) (p : Int × Int), PySem.W.minD (pairP p) (ps.map pairP) = pairP (minP p ps)
  | [], _ => rfl
  | y :: ps, p => by
    have h := minD_pairs ps (if y.1 < p.1 ∨ (y.1 = p.1 ∧ y.2 < p.2) then y else p)
    unfold PySem.W.minD minP at h ⊢
    rw [List.map_cons, List.foldl_cons, List.foldl_cons, ← h]
    congr 1
    show (if PySem.W.dataLt (.tuple [.int y.1, .int y.2]) (.tuple [.int p.1, .int p.2]) then _ else _) = _
    rw [PySem.W.dataLt_ii]
    by_cases e : y.1 < p.1 ∨ (y.1 = p.1 ∧ y.2 < p.2)
    · rw [if_pos (decide_eq_true e), if_pos e]
    · rw [if_neg (by simpa using e), if_neg e]
theorem pairs_alike (ps : List (Int × Int)) : PySem.W.AlikeAll (ps.map pairP) := by
  refine ⟨fun x hx y hy => ?_, fun x hx => ?_⟩
  · obtain ⟨p, _, rfl⟩ := List.mem_map.mp hx
    obtain ⟨q, _, rfl⟩ := List.mem_map.mp hy
    simp [pairP, PySem.W.alike, PySem.W.alikeAll]
  · obtain ⟨p, _, rfl⟩ := List.mem_map.mp hx
    simp [pairP]
theorem pairs_depth : ∀ ps : List (Int × Int), PyData.depthAll (ps.map pairP) ≤ 1
  | [] => by simp [PyData.depthAll]
  | p :: ps => by
    have h := pairs_depth ps
    have e : (pairP p).depth = 1 := by simp [pairP, PyData.depth, PyData.depthAll]
    simp only [List.map_cons, PyData.depthAll, e]
    omega
theorem pair_lay (p : Int × Int) : (pairP p).canLay0 = true := by simp [pairP, PyData.canLay0, PyData.canLayAll0]
def rMinP (K : PySem.W.Frag) : List V → Hp → VK → Prop := fun vs H Q => ∃ (a : Addr) (xs : List V) (p : Int × Int) (ps : List (Int × Int)), vs = [V.ref a] ∧ SqL K H a xs ∧ DpAll K H xs ((p :: ps).map pairP) ∧
  ∀ (i : Nat) (v : V), xs[i]? = some v → (p :: ps)[i]? = some (minP p ps) → Q v H
section
variable {X : Cx} {K : PySem.W.Frag}
theorem dpAll_get {H : Hp} {ds : List PyData} : ∀ {xs : List V} (i : Nat) {x : V}, DpAll K H xs ds → xs[i]? = some x → ∃ d, ds[i]? = some d ∧ Dp K H x d := by
  induction ds with
  | nil => intro xs i x h e; cases h; simp at e
  | cons d ds ih =>
    intro xs i x h e
    cases h with
    | cons h1 h2 =>
      cases i with
      | zero => cases e; exact ⟨d, rfl, h1⟩
      | succ i => exact ih i h2 e
theorem vals_getR {xs : List V} : ∀ {us : List Value} {i : Nat} {u : Value}, Vals xs us → us[i]? = some u → ∃ x, xs[i]? = some x ∧ RelV x u := by
  induction xs with
  | nil => intro us i u h e; cases h; simp at e
  | cons x xs ih =>
    intro us i u h e
    cases h with
    | cons h1 h2 =>
      cases i with
      | zero => cases e; exact ⟨x, rfl, h1⟩
      | succ i => exact ih h2 e
theorem pairP_inj {p q : Int × Int} (h : pairP p = pairP q) : p = q := by
  simp only [pairP, PyData.tuple.injEq, List.cons.injEq, PyData.int.injEq, and_true] at h
  exact Prod.ext h.1 h.2
theorem cr_minP (hu : X.A.units + 64 < cLine) (hc : X.calm = true) : CallR X (.builtin "min") (rMinP X.K) := by
  intro pins s σ H vs us Q I r h
  obtain ⟨a, xs, p, ps, rfl, hs, hd, q⟩ := h
  obtain ⟨its, rv, hl, _⟩ := I.list hs
  rw [Vals.ref1 r]
  obtain ⟨as, ra⟩ := Dp.readsAll I _ _ its hd rv
  have hdp := pairs_depth (p :: ps)
  refine PySem.W.min_list_data (I.ok.hd hc) hl.isList (x := pairP p) (xs := ps.map pairP) (show ReadsAll s.heap its.toArray.toList _ as from ra) (pairs_alike (p :: ps)) ?_ fun i u h' tk bs hi hr hk => ?_
  · show X.A.units + 1 + PyData.depthAll ((p :: ps).map pairP) < cLine
    omega
  · have hi' : its[i]? = some u := by simpa using hi
    obtain ⟨x, hx, rx⟩ := vals_getR rv hi'
    obtain ⟨d, hdi, hdx⟩ := dpAll_get i hd hx
    obtain ⟨cs, r1⟩ := Dp.reads I d x u hdx rx
    have r2 := PySem.W.reads_keeps hk r1
    rw [List.getElem?_map] at hdi
    cases e : (p :: ps)[i]? with
    | none => rw [e] at hdi; cases hdi
    | some m =>
      rw [e] at hdi; cases hdi
      have e2 := (Reads.unique r2 _ _ hr).1
      rw [minD_pairs] at e2
      exact ⟨x, H, I.kept hk, rx, q i x hx (by rw [e, pairP_inj e2])⟩
def pairDD (p : Int × Int) : D := .tup [.int p.1, .int p.2]
def minPL : OL := fun ds k => match ds with | [.lst zs] => ∃ p ps, zs = (p :: ps).map pairDD ∧ k (pairDD (minP p ps)) | _ => False
theorem pd_pairs : ∀ ps : List (Int × Int), pdAll (ps.map pairDD) = ps.map pairP
  | [] => rfl
  | p :: ps => by simp only [List.map_cons, pdAll, pd_pairs ps]; simp [pairDD, pairP, D.pd, pdAll]
theorem lays_pairs : ∀ ps : List (Int × Int), PyData.canLayAll0 (ps.map pairP) = true
  | [] => by simp [PyData.canLayAll0]
  | p :: ps => by simp [PyData.canLayAll0, pair_lay p, lays_pairs ps]
theorem reps_dpAll {Hm H : Hp} (m : Mo Hm H) {ps : List (Int × Int)} : ∀ {vs : List V}, Reps K Hm vs (ps.map pairDD) → DpAll K H vs (ps.map pairP) := by
  induction ps with
  | nil => intro vs h; cases h; exact .nil
  | cons p ps ih =>
    intro vs h
    cases h with
    | cons h1 h2 =>
      refine .cons ?_ (ih h2)
      have e : (pairDD p).pd = pairP p := by simp [pairDD, pairP, D.pd, pdAll]
      rw [← e]
      exact rep_dp m h1 (by rw [e]; exact pair_lay p)
theorem minP_s : ClS K (rMinP K) minPL := fun A H xs ds k Q tr r q f => by
  match ds, q with
  | [.lst zs], q =>
    obtain ⟨p, ps, rfl, q⟩ := q
    obtain ⟨x, rfl, r1⟩ := reps1 r
    obtain ⟨a, vs, rfl, h1, h2⟩ := r1.lst_inv
    refine ⟨a, vs, p, ps, rfl, .inl (rd_mono hid_le h1), reps_dpAll hid_le h2, fun i v hv hm => ?_⟩
    obtain ⟨d, hd, rd⟩ := h2.getV hv
    rw [List.getElem?_map, hm] at hd
    cases hd
    exact f _ _ H q (.refl H) rd
end
/-- the least pair is one of them, and none comes ahead of it -/
theorem minP_spec (p : Int × Int) (ps : List (Int × Int)) : minP p ps ∈ p :: ps ∧ ∀ y ∈ p :: ps, ¬ (y.1 < (minP p ps).1 ∨ (y.1 = (minP p ps).1 ∧ y.2 < (minP p ps).2)) := by
  induction ps generalizing p with
  | nil => exact ⟨List.mem_cons_self, fun y hy => by rw [List.mem_singleton.mp hy]; show ¬ (p.1 < p.1 ∨ (p.1 = p.1 ∧ p.2 < p.2)); omega⟩
  | cons z ps ih =>
    have h := ih (if z.1 < p.1 ∨ (z.1 = p.1 ∧ z.2 < p.2) then z else p)
    have e : minP p (z :: ps) = minP (if z.1 < p.1 ∨ (z.1 = p.1 ∧ z.2 < p.2) then z else p) ps := rfl
    rw [e]
    obtain ⟨h1, h2⟩ := h
    refine ⟨?_, fun y hy => ?_⟩
    · rcases List.mem_cons.mp h1 with h1 | h1
      · rw [h1]; split
        · simp
        · simp
      · exact List.mem_cons_of_mem _ (List.mem_cons_of_mem _ h1)
    · have h0 := h2 _ List.mem_cons_self
      rcases List.mem_cons.mp hy with rfl | hy
      · split at h0 <;> rename_i c
        · rw [if_pos c]; omega
        · rw [if_neg c]; exact h0
      · rcases List.mem_cons.mp hy with rfl | hy
        · split at h0 <;> rename_i c
          · rw [if_pos c]; exact h0
          · rw [if_neg c]; omega
        · exact h2 y (List.mem_cons_of_mem _ hy)
end DL

set_option Elab.async false
set_option linter.all false
set_option maxRecDepth 100000
namespace DL
open PySem L2

/-! ## dicts whose keys are ints and texts -/
def keyD (d : D) (k : Key → Prop) : Prop := match d with | .int i => k (.inl i) | .str s => k (.inr s) | _ => False
/-- a key as data -/
def kD : Key → D
  | .inl i => .int i
  | .inr s => .str s
def getX : List Key → List D → Key → Option D
  | k :: ks, x :: xs, j => if k = j then some x else getX ks xs j
  | _, _, _ => none
def hasK (ks : List Key) (j : Key) : Bool := ks.any fun k => decide (k = j)
def putKs (ks : List Key) (j : Key) : List Key := if hasK ks j = true then ks else ks ++ [j]
def repX : List Key → List D → Key → D → List D
  | k :: ks, x :: xs, j, d => (if k = j then d else x) :: repX ks xs j d
  | _, _, _, _ => []
def putXs (ks : List Key) (xs : List D) (j : Key) (d : D) : List D := if hasK ks j = true then repX ks xs j d else xs ++ [d]
section
variable {X : Cx} {W : WW} {K : PySem.W.Frag}
theorem keyD_rep {H : Hp} {v : V} {d : D} {k : Key → Prop} (h : keyD d k) (r : Rep K H v d) : ∃ j, v = kV j ∧ d = kD j ∧ k j := by
  cases d <;> first | exact h.elim | skip
  · cases r; exact ⟨.inl _, rfl, rfl, h⟩
  · cases r; exact ⟨.inr _, rfl, rfl, h⟩
theorem getX_some {H : Hp} {j : Key} {z : D} : ∀ {kvs : List (Key × V)} {xs : List D}, Reps K H (kvs.map (·.2)) xs → getX (kvs.map (·.1)) xs j = some z → ∃ v, valV kvs j = some v ∧ Rep K H v z
  | [], xs, h, e => by cases h; cases e
  | (k, v) :: kvs, xs, h, e => by
    cases h with
    | cons h1 h2 =>
      simp only [List.map_cons, getX] at e
      by_cases q : k = j
      · rw [if_pos q] at e; cases e
        exact ⟨v, valV_pos q, h1⟩
      · rw [if_neg q] at e
        obtain ⟨u, hu, ru⟩ := getX_some h2 e
        exact ⟨u, by rw [valV_neg q]; exact hu, ru⟩
theorem getX_none {H : Hp} {j : Key} : ∀ {kvs : List (Key × V)} {xs : List D}, Reps K H (kvs.map (·.2)) xs → getX (kvs.map (·.1)) xs j = none → valV kvs j = none
  | [], xs, h, e => rfl
  | (k, v) :: kvs, xs, h, e => by
    cases h with
    | cons h1 h2 =>
      simp only [List.map_cons, getX] at e
      by_cases q : k = j
      · rw [if_pos q] at e; cases e
      · rw [if_neg q] at e
        rw [valV_neg q]; exact getX_none h2 e
theorem any_mem {j : Key} (kvs : List (Key × V)) : (kvs.any fun kv => decide (kv.1 = j)) = hasK (kvs.map (·.1)) j := by
  unfold hasK; rw [List.any_map]; rfl
theorem put_keys (kvs : List (Key × V)) (j : Key) (v : V) : (L2.putK kvs j v).map (·.1) = putKs (kvs.map (·.1)) j := by
  unfold L2.putK putKs
  rw [any_mem]
  by_cases q : hasK (kvs.map (·.1)) j = true
  · rw [if_pos q, if_pos q, List.map_map]
    apply List.map_congr_left
    intro p _
    show (if p.1 = j then (p.1, v) else p).1 = p.1
    split <;> rfl
  · rw [if_neg q, if_neg q, List.map_append]; rfl
theorem rep_vals {H : Hp} {j : Key} {v : V} {d : D} (hv : Rep K H v d) : ∀ {kvs : List (Key × V)} {xs : List D}, Reps K H (kvs.map (·.2)) xs → Reps K H ((kvs.map fun kv => if kv.1 = j then (kv.1, v) else kv).map (·.2)) (repX (kvs.map (·.1)) xs j d)
  | [], xs, h => by cases h; exact .nil
  | (k, u) :: kvs, xs, h => by
    cases h with
    | cons h1 h2 =>
      simp only [List.map_cons, repX]
      by_cases q : k = j
      · rw [if_pos q, if_pos q]; exact .cons hv (rep_vals hv h2)
      · rw [if_neg q, if_neg q]; exact .cons h1 (rep_vals hv h2)
theorem put_vals {H : Hp} {j : Key} {v : V} {d : D} (hv : Rep K H v d) {kvs : List (Key × V)} {xs : List D} (h : Reps K H (kvs.map (·.2)) xs) : Reps K H ((L2.putK kvs j v).map (·.2)) (putXs (kvs.map (·.1)) xs j d) := by
  unfold L2.putK putXs
  rw [any_mem]
  by_cases q : hasK (kvs.map (·.1)) j = true
  · rw [if_pos q, if_pos q]; exact rep_vals hv h
  · rw [if_neg q, if_neg q, List.map_append]; exact h.append (.cons hv .nil)
theorem Rep.dic_inv {H : Hp} {v : V} {ks : List Key} {xs : List D} (h : Rep K H v (.dic ks xs)) : ∃ a kvs, v = .ref a ∧ Rd H a (.dK kvs) ∧ kvs.map (·.1) = ks ∧ Reps K H (kvs.map (·.2)) xs := by
  cases h with
  | dic h1 h2 => exact ⟨_, _, rfl, h1, rfl, h2⟩

/-! ### a new dict -/
theorem new_dic {fm : Fm} {H : Hp} {σ : St} {ρ : Env} (r : RS K fm H σ ρ) {p : Addr} (hp : H p = none) {kvs : List (Key × V)} {xs : List D} (h : Reps K (fm.hid σ ρ H) (kvs.map (·.2)) xs) : NewO K fm σ H ρ (upd H p (.dK kvs)) ρ p (.dic (kvs.map (·.1)) xs) := by
  obtain ⟨r2, g2, n2⟩ := r.new (o := .dK kvs) hp (fun _ _ _ z => nomatch z)
  have up : ∀ b o, fm.hid σ ρ H b = some o → hide (ownAs p (.dic (kvs.map (·.1)) xs) ++ (fm.E ++ owned σ ρ)) (upd H p (.dK kvs)) b = some o := fun b o e => by
    obtain ⟨m, e⟩ := hide_some e
    have nb : b ≠ p := ne_of_none e hp
    have : b ∉ ownAs p (.dic (kvs.map (·.1)) xs) ++ (fm.E ++ owned σ ρ) := by
      rw [List.mem_append, not_or]; exact ⟨by simpa [ownAs] using nb, m⟩
    rw [hide_out this, upd_ne nb]; exact e
  exact ⟨⟨r2, g2⟩, r.newE hp trivial (fun _ _ _ z => nomatch z) (fun _ z => nomatch z), up, kvs, upd_same, rfl, h.mono up⟩
def wDNew : WO := fun ρ Q _ => Q (.dic [] []) ρ
theorem do_dnew {pos : Pos} : DO X W (.Dict [] [] pos) wDNew :=
  ⟨_, pe_dnewK, fun fm H σ ρ Q R QV s q x k => fun p hp => k p _ _ ρ q (new_dic s hp (kvs := []) .nil)⟩

/-! ### a slot's own dict -/
def modK : Env → Nat → (List Key → List D → (List Key → List D → Env) → Prop) → Prop
  | [], _, _ => False
  | t :: r, 0, k => (match t with | .own (.dic ks xs) => k ks xs fun ls ys => .own (.dic ls ys) :: r | _ => False)
  | t :: r, i + 1, k => modK r i fun ks xs f => k ks xs fun ls ys => t :: f ls ys
theorem modK_spec : ∀ {ρ : Env} {i : Nat} {k : List Key → List D → (List Key → List D → Env) → Prop}, modK ρ i k → ∃ ks xs, Env.at ρ i = .own (.dic ks xs) ∧ k ks xs fun ls ys => Env.put ρ i (.own (.dic ls ys))
  | [], _, _, h => h.elim
  | t :: r, 0, k, h => by
    cases t with
    | own o => cases o with
      | dic ks xs => exact ⟨ks, xs, rfl, h⟩
      | _ => exact h.elim
    | _ => exact h.elim
  | t :: r, i + 1, k, h => modK_spec (ρ := r) (i := i) h
theorem RS.own_dic {fm : Fm} {H : Hp} {σ : St} {ρ : Env} (r : RS K fm H σ ρ) {i : Nat} {ks : List Key} {xs : List D} (ho : Env.at ρ i = .own (.dic ks xs)) : ∃ a kvs, σ[i]? = some (some (.ref a)) ∧ H a = some (.dK kvs) ∧ kvs.map (·.1) = ks ∧ Reps K (fm.hid σ ρ H) (kvs.map (·.2)) xs := by
  obtain ⟨a, hv⟩ := r.own_at ho
  have so := r.sl i
  have e1 : σ.getD i none = some (.ref a) := by rw [List.getD_eq_getElem?_getD, hv]; rfl
  rw [e1, ho] at so
  obtain ⟨kvs, h1, h2, h3⟩ := so
  exact ⟨a, kvs, hv, h1, h2, h3⟩
theorem owned_updK {a : Addr} {ks ls : List Key} {xs ys : List D} : ∀ {σ : St} {ρ : Env} {i : Nat}, σ[i]? = some (some (.ref a)) → Env.at ρ i = .own (.dic ks xs) → owned σ (Env.put ρ i (.own (.dic ls ys))) = owned σ ρ
  | [], _, _, h, _ => by simp at h
  | _ :: _, [], _, _, h => by cases h
  | v :: σ, t :: ρ, 0, h, h' => by
    have e : v = some (.ref a) := by simpa using h
    have e' : t = .own (.dic ks xs) := h'
    subst e e'; rfl
  | v :: σ, t :: ρ, i + 1, h, h' => by
    show slotAs v t ++ owned σ (Env.put ρ i (.own (.dic ls ys))) = slotAs v t ++ owned σ ρ
    rw [owned_updK (i := i) (by simpa using h) h']
/-- the own dict in slot i is another one now -/
theorem RS.updK {fm : Fm} {H : Hp} {σ : St} {ρ : Env} (r : RS K fm H σ ρ) {i : Nat} {a : Addr} {ks : List Key} {xs ys : List D} {kvs us : List (Key × V)} (hv : σ[i]? = some (some (.ref a))) (ho : Env.at ρ i = .own (.dic ks xs)) (ha : H a = some (.dK kvs)) (hr : Reps K (fm.hid σ ρ H) (us.map (·.2)) ys) :
    To K fm σ H ρ (upd H a (.dK us)) (Env.put ρ i (.own (.dic (us.map (·.1)) ys))) := by
  have e := owned_updK (i := i) (ks := ks) (ls := us.map (·.1)) (xs := xs) (ys := ys) hv ho
  have hi : i < ρ.length := at_lt ho
  have hi' : i < σ.length := by rw [r.len]; exact hi
  have e1 : σ.getD i none = some (.ref a) := by rw [List.getD_eq_getElem?_getD, hv]; rfl
  have ma : a ∈ owned σ ρ := owned_mem r.len hi (by rw [e1, ho]; simp [slotAs, ownAs])
  have hid : fm.hid σ (Env.put ρ i (.own (.dic (us.map (·.1)) ys))) (upd H a (.dK us)) = fm.hid σ ρ H := by
    funext b
    show hide (fm.E ++ owned σ (Env.put ρ i (.own (.dic (us.map (·.1)) ys)))) (upd H a (.dK us)) b = _
    rw [e]
    by_cases q : b ∈ fm.E ++ owned σ ρ
    · rw [hide_in q]; exact (hide_in q).symm
    · have nb : b ≠ a := fun z => q (List.mem_append_right _ (z ▸ ma))
      rw [hide_out q, upd_ne nb]; exact (hide_out q).symm
  have keepH : ∀ b o, b ≠ a → H b = some o → upd H a (.dK us) b = some o := fun b o n h => (upd_ne n).trans h
  refine ⟨⟨by rw [Env.put_len]; exact r.len, fun j => ?_, by rw [e]; exact r.nd, fun b hb => ?_, fun b C dx fs h => ?_, fun b C dx fs h => ?_, fun c b hc h => ?_, fun b o h => ?_, r.fx⟩, fun b o h n => keepH b o (fun z => n (z ▸ ma)) h, fun b h => by rw [e] at h; exact h⟩
  · rw [hid, Env.at_put _ ρ i j hi]
    by_cases q : j = i
    · subst q; rw [if_pos rfl, e1]; exact ⟨us, upd_same, rfl, hr⟩
    · rw [if_neg q]
      -- another slot's object is another one
      have s := r.sl j
      have ne : ∀ b ∈ slotAs (σ.getD j none) (Env.at ρ j), b ≠ a := fun b hb z => by
        subst z
        have nd := (List.nodup_append.mp r.nd).2.1
        have O := owned_at σ ρ i hi' hi
        rw [e1, ho] at O
        have nd2 := O.nodup_iff.mp nd
        have : b ∈ owned (σ.set i none) (Env.put ρ i .no) := by
          by_cases hj : j < ρ.length
          · refine owned_mem (σ := σ.set i none) (by rw [List.length_set, Env.put_len]; exact r.len) (i := j) (by rw [Env.put_len]; exact hj) ?_
            rw [getD_set hi', if_neg q, Env.at_put _ ρ i j hi, if_neg q]; exact hb
          · have : σ.getD j none = none := by rw [List.getD_eq_getElem?_getD, List.getElem?_eq_none (by rw [r.len]; omega)]; rfl
            rw [this] at hb; simp [slotAs] at hb
        exact (List.nodup_append.mp nd2).2.2 b (by simp [slotAs, ownAs]) b this rfl
      revert s ne
      cases σ.getD j none with
      | none => cases Env.at ρ j <;> exact fun h _ => h
      | some v =>
        cases Env.at ρ j with
        | no => exact fun h _ => h
        | v d => exact fun h _ => h
        | own o =>
          cases v with
          | ref c =>
            intro s ne
            cases o with
            | lst ds => obtain ⟨ws, h1, h2⟩ := s; exact ⟨ws, keepH _ _ (ne c (by simp [slotAs, ownAs])) h1, h2⟩
            | dic ks ds => obtain ⟨ws, h1, h2⟩ := s; exact ⟨ws, keepH _ _ (ne c (by simp [slotAs, ownAs])) h1, h2⟩
            | ins C dx ns ds => obtain ⟨ws, h1, h2, h3, h4⟩ := s; exact ⟨ws, keepH _ _ (ne c (by simp [slotAs, ownAs])) h1, h2, h3, keepH _ _ (ne dx (by simp [slotAs, ownAs])) h4⟩
          | _ => exact fun h _ => h
  · rw [e] at hb
    obtain ⟨⟨o, h, w⟩, g⟩ := r.tr b hb
    by_cases q : b = a
    · subst q; exact ⟨⟨_, upd_same, trivial⟩, g⟩
    · exact ⟨⟨o, keepH b o q h, w⟩, g⟩
  · have nb : b ≠ a := fun z => by subst z; rw [upd_same] at h; cases h
    rw [upd_ne nb] at h
    have := r.ins b C dx fs h
    exact keepH _ _ (fun z => by subst z; rw [ha] at this; cases this) this
  · have nb : b ≠ a := fun z => by subst z; rw [upd_same] at h; cases h
    rw [upd_ne nb] at h
    rw [e]; exact r.cl b C dx fs h
  · rw [e] at hc ⊢
    have nc : c ≠ a := fun z => by subst z; rw [upd_same] at h; cases h
    rw [upd_ne nc] at h
    obtain ⟨h1, C, fs, h2⟩ := r.co c b hc h
    exact ⟨h1, C, fs, keepH _ _ (fun z => by subst z; rw [ha] at h2; cases h2) h2⟩
  · have g := (r.tr a (List.mem_append_right _ ma)).2
    exact keepH b o (fun z => by subst z; rw [g] at h; cases h) (r.keep b o h)


def sSetK (i : Nat) (kw val : WE) : WS := fun ρ k => val ρ (fun d ρ1 => modK ρ1 i (fun _ _ _ => True) ∧ kw ρ1 (fun e ρ2 => keyD e fun j => modK ρ2 i fun ks xs f => ks.length < LIM ∧ k.nx (f (putKs ks j) (putXs ks xs j d))) k.ex) k.ex
theorem ds_setK {o ie e : Expr} {pos tpos : Pos} {kw val : WE} (hu : X.A.units + 1 < cLine) (i : Nat) (ho : PE X o (tVar i)) (hi : DE X W ie kw) (hv : DE X W e val) (hs : swapsWith e (some (.Subscript o ie tpos)) pos.line X.env = pure false := by rfl) : DS X W (.Assign [.Subscript o ie tpos] e pos) (sSetK i kw val) := by
  obtain ⟨ti, pi, li⟩ := hi.ex; obtain ⟨tv, pv, lv⟩ := hv.ex
  refine ⟨_, ps_dput hu ho pi pv hs, fun fm H σ ρ k D r hf q e => lv fm H σ ρ _ k.ex _ r q (e.xok hf) fun v H1 d ρ1 q1 g1 r1 => ?_⟩
  obtain ⟨q0, q1⟩ := q1
  obtain ⟨ks0, xs0, h0, _⟩ := modK_spec q0
  obtain ⟨l, kvs0, hl, _, _, _⟩ := g1.rs.own_dic h0
  refine ⟨_, hl, li fm H1 σ ρ1 _ k.ex _ g1.rs q1 ((e.xok hf).to g1) fun iv H2 ed ρ2 q2 g2 r2 => ?_⟩
  obtain ⟨j, rfl, rfl, q2'⟩ := keyD_rep q2 r2; replace q2 := q2'; clear q2'
  obtain ⟨ks, xs, h2, hn, q3⟩ := modK_spec q2
  obtain ⟨l', kvs, hl', hH, hk, hr⟩ := g2.rs.own_dic h2
  rw [hl] at hl'; cases hl'
  subst hk
  have t3 := g2.rs.updK (ys := putXs (kvs.map (·.1)) xs j d) (us := L2.putK kvs j v) hl h2 hH (put_vals (g2.go.rep r1) hr)
  rw [put_keys] at t3
  exact ⟨l, _, rfl, DPut.k hH (by rw [List.length_map] at hn; rw [← lim]; exact hn), e.nx _ _ _ q3 t3.rs ((g1.trans g2).trans t3).go.sub⟩
/-! ### reading a dict: d[k], k in d, d.get(k, x), as data and in a slot -/
def dicOf (s : Sl) (k : List Key → List D → Prop) : Prop := match s with | .own (.dic ks xs) => k ks xs | .v (.dic ks xs) => k ks xs | _ => False
theorem RS.dicOf {fm : Fm} {H : Hp} {σ : St} {ρ : Env} (r : RS K fm H σ ρ) {i : Nat} {k : List Key → List D → Prop} (h : dicOf (ρ.at i) k) :
    ∃ a kvs ds, σ[i]? = some (some (.ref a)) ∧ Rd H a (.dK kvs) ∧ Reps K (fm.hid σ ρ H) (kvs.map (·.2)) ds ∧ k (kvs.map (·.1)) ds := by
  have s := r.sl i
  cases e : ρ.at i with
  | no => rw [e] at h; exact h.elim
  | v d =>
    rw [e] at h s
    cases e2 : σ.getD i none with
    | none => rw [e2] at s; exact s.elim
    | some v =>
      rw [e2] at s
      cases d <;> first | exact h.elim | skip
      obtain ⟨a, kvs, rfl, h1, rfl, h2⟩ := Rep.dic_inv s
      exact ⟨a, kvs, _, getD_some e2, rd_mono hid_le h1, h2, h⟩
  | own o =>
    rw [e] at h s
    cases o <;> first | exact h.elim | skip
    cases e2 : σ.getD i none with
    | none => rw [e2] at s; exact s.elim
    | some v =>
      rw [e2] at s
      cases v <;> first | exact s.elim | skip
      obtain ⟨kvs, h1, rfl, h2⟩ := s
      exact ⟨_, kvs, _, getD_some e2, .inl h1, h2, h⟩
theorem dget_of {H : Hp} {a : Addr} {kvs : List (Key × V)} (h : Rd H a (.dK kvs)) (j : Key) : DGet H a (kV j) (valV kvs j) := .inl ⟨kvs, j, h, rfl, rfl⟩
/-- d[k], d in slot i -/
def wDGetB (i : Nat) (kw : WE) : WE := fun ρ Q R => dicOf (ρ.at i) (fun _ _ => True) ∧ kw ρ (fun e ρ1 => keyD e fun j => dicOf (ρ1.at i) fun ks xs => ∃ z, getX ks xs j = some z ∧ Q z ρ1) R
theorem de_dgetB {o ie : Expr} {pos : Pos} {kw : WE} (hu : X.A.units + 1 < cLine) (i : Nat) (ho : PE X o (tVar i)) (hi : DE X W ie kw) (hs : NoSl ie) : DE X W (.Subscript o ie pos) (wDGetB i kw) := by
  obtain ⟨ti, pi, li⟩ := hi.ex
  refine ⟨_, pe_dget hu ho pi hs, fun fm H σ ρ Q R QV s q x k => ?_⟩
  obtain ⟨q0, q⟩ := q
  obtain ⟨a, kvs0, _, hv, _, _, _⟩ := s.dicOf q0
  refine ⟨_, hv, li fm H σ ρ _ R _ s q x fun iv H1 ed ρ1 q1 g1 r1 => ?_⟩
  obtain ⟨j, rfl, rfl, q1'⟩ := keyD_rep q1 r1; replace q1 := q1'; clear q1'
  obtain ⟨a', kvs, ds, hv', hrd, hr, z, hz, q2⟩ := g1.rs.dicOf q1
  rw [hv] at hv'; cases hv'
  obtain ⟨u, hu', ru⟩ := getX_some hr hz
  exact ⟨a, u, rfl, by have := dget_of hrd j; rw [hu'] at this; exact this, k u H1 z ρ1 q2 g1 ru⟩
/-- d[k], d any data -/
def dicD (d : D) (k : List Key → List D → Prop) : Prop := match d with | .dic ks xs => k ks xs | _ => False
def wDGet (a kw : WE) : WE := fun ρ Q R => a ρ (fun d ρ1 => kw ρ1 (fun e ρ2 => dicD d fun ks xs => keyD e fun j => ∃ z, getX ks xs j = some z ∧ Q z ρ2) R) R
theorem dicD_rep {H : Hp} {v : V} {d : D} {k : List Key → List D → Prop} (h : dicD d k) (r : Rep K H v d) : ∃ a kvs xs, v = .ref a ∧ Rd H a (.dK kvs) ∧ Reps K H (kvs.map (·.2)) xs ∧ d = .dic (kvs.map (·.1)) xs ∧ k (kvs.map (·.1)) xs := by
  cases d <;> first | exact h.elim | skip
  obtain ⟨a, kvs, rfl, h1, rfl, h2⟩ := r.dic_inv
  exact ⟨a, kvs, _, rfl, h1, h2, rfl, h⟩
theorem de_dget {o ie : Expr} {pos : Pos} {a kw : WE} (hu : X.A.units + 1 < cLine) (ho : DE X W o a) (hi : DE X W ie kw) (hs : NoSl ie) : DE X W (.Subscript o ie pos) (wDGet a kw) := by
  obtain ⟨to, po, lo⟩ := ho.ex; obtain ⟨ti, pi, li⟩ := hi.ex
  refine ⟨_, pe_dget hu po pi hs, fun fm H σ ρ Q R QV s q x k => lo fm H σ ρ _ R _ s q x fun v H1 d ρ1 q1 g1 r1 => li fm H1 σ ρ1 _ R _ g1.rs q1 (x.to g1) fun iv H2 ed ρ2 q2 g2 r2 => ?_⟩
  obtain ⟨b, kvs, xs, rfl, hrd, hr, _, q2⟩ := dicD_rep q2 (g2.go.rep r1)
  obtain ⟨j, rfl, rfl, z, hz, q3⟩ := keyD_rep q2 r2
  obtain ⟨u, hu', ru⟩ := getX_some hr hz
  exact ⟨b, u, rfl, by have := dget_of (rd_mono hid_le hrd) j; rw [hu'] at this; exact this, k u H2 z ρ2 q3 (g1.trans g2) ru⟩
/-- k in d, d in slot i -/
def wDInB (yes : Bool) (i : Nat) (kw : WE) : WE := fun ρ Q R => kw ρ (fun e ρ1 => keyD e fun j => dicOf (ρ1.at i) fun ks xs => Q (.bl (if yes then (getX ks xs j).isSome else !(getX ks xs j).isSome)) ρ1) R
theorem getX_isSome {H : Hp} {j : Key} {kvs : List (Key × V)} {xs : List D} (h : Reps K H (kvs.map (·.2)) xs) : (valV kvs j).isSome = (getX (kvs.map (·.1)) xs j).isSome := by
  cases e : getX (kvs.map (·.1)) xs j with
  | none => rw [getX_none h e]; rfl
  | some z => obtain ⟨u, hu, _⟩ := getX_some h e; rw [hu]; rfl
theorem de_dinB {o ie : Expr} {pos : Pos} {kw : WE} (hu : X.A.units + 1 < cLine) (i : Nat) (ho : PE X o (tVar i)) (hi : DE X W ie kw) (hm : behindInMarks .In o = false := by rfl) : DE X W (.Compare ie [.In] [o] pos) (wDInB true i kw) := by
  obtain ⟨ti, pi, li⟩ := hi.ex
  refine ⟨_, pe_cmp (pc_din hu pi ho) hm, fun fm H σ ρ Q R QV s q x k => li fm H σ ρ _ R _ s q x fun iv H1 ed ρ1 q1 g1 r1 => ?_⟩
  obtain ⟨j, rfl, rfl, q1'⟩ := keyD_rep q1 r1; replace q1 := q1'; clear q1'
  obtain ⟨a, kvs, ds, hv, hrd, hr, q2⟩ := g1.rs.dicOf q1
  rw [if_pos rfl] at q2
  refine ⟨_, hv, a, _, rfl, dget_of hrd j, k _ H1 _ ρ1 q2 g1 ?_⟩
  rw [getX_isSome hr]; exact .bl _
theorem de_dnotinB {o ie : Expr} {pos : Pos} {kw : WE} (hu : X.A.units + 1 < cLine) (i : Nat) (ho : PE X o (tVar i)) (hi : DE X W ie kw) (hm : behindInMarks .NotIn o = false := by rfl) : DE X W (.Compare ie [.NotIn] [o] pos) (wDInB false i kw) := by
  obtain ⟨ti, pi, li⟩ := hi.ex
  refine ⟨_, pe_cmp (pc_dnotin hu pi ho) hm, fun fm H σ ρ Q R QV s q x k => li fm H σ ρ _ R _ s q x fun iv H1 ed ρ1 q1 g1 r1 => ?_⟩
  obtain ⟨j, rfl, rfl, q1'⟩ := keyD_rep q1 r1; replace q1 := q1'; clear q1'
  obtain ⟨a, kvs, ds, hv, hrd, hr, q2⟩ := g1.rs.dicOf q1
  rw [if_neg (by decide)] at q2
  refine ⟨_, hv, a, _, rfl, dget_of hrd j, k _ H1 _ ρ1 q2 g1 ?_⟩
  rw [getX_isSome hr]; exact .bl _
/-- d.get(k, x), d in slot i -/
def wDGet2B (i : Nat) (kw xw : WE) : WE := fun ρ Q R => dicOf (ρ.at i) (fun _ _ => True) ∧ kw ρ (fun e ρ1 => xw ρ1 (fun d ρ2 => keyD e fun j => dicOf (ρ2.at i) fun ks xs => Q ((getX ks xs j).getD d) ρ2) R) R
theorem de_dget2B {o e f : Expr} {apos cpos : Pos} {kw xw : WE} (hu : X.A.units + 1 < cLine) (i : Nat) (ho : PE X o (tVar i)) (he : DE X W e kw) (hf : DE X W f xw) (m : M2 X o "get" apos e f cpos) : DE X W (.Call (.Attribute o "get" apos) [e, f] [] cpos) (wDGet2B i kw xw) := by
  obtain ⟨ti, pi, li⟩ := he.ex; obtain ⟨tx, px, lx⟩ := hf.ex
  refine ⟨_, pe_dget2 hu ho pi px m, fun fm H σ ρ Q R QV s q x k => ?_⟩
  obtain ⟨q0, q⟩ := q
  obtain ⟨a, kvs0, _, hv, hrd0, _, _⟩ := s.dicOf q0
  refine ⟨_, hv, a, rfl, .inl ⟨kvs0, hrd0⟩, li fm H σ ρ _ R _ s q x fun iv H1 ed ρ1 q1 g1 r1 => lx fm H1 σ ρ1 _ R _ g1.rs q1 (x.to g1) fun xv H2 xd ρ2 q2 g2 r2 => ?_⟩
  obtain ⟨j, rfl, rfl, q2'⟩ := keyD_rep q2 (g2.go.rep r1); replace q2 := q2'; clear q2'
  obtain ⟨a', kvs, ds, hv', hrd, hr, q2⟩ := g2.rs.dicOf q2
  rw [hv] at hv'; cases hv'
  refine ⟨_, dget_of hrd j, k _ H2 _ ρ2 q2 (g1.trans g2) ?_⟩
  cases e1 : getX (kvs.map (·.1)) ds j with
  | none => rw [getX_none hr e1]; exact r2
  | some z => obtain ⟨u, hu', ru⟩ := getX_some hr e1; rw [hu']; exact ru
/-- d[k] op= v, d a slot's own -/
def sAugK (i : Nat) (kw : WE) (o : O2) (val : WE) : WS := fun ρ k => modK ρ i (fun _ _ _ => True) ∧ kw ρ (fun e ρ1 => keyD e fun j => modK ρ1 i fun ks xs _ => ∃ z, getX ks xs j = some z ∧
  val ρ1 (fun d ρ2 => o z d fun z' => modK ρ2 i fun ls ys f => ls.length < LIM ∧ k.nx (f (putKs ls j) (putXs ls ys j z'))) k.ex) k.ex
theorem ds_augK {oe ie e : Expr} {pos tpos : Pos} {kw val : WE} {op : Operator} {r : R2} {o : O2} (hu : X.A.units + 1 < cLine) (i : Nat) (ho : PE X oe (tVar i)) (hi : DE X W ie kw) (hop : OpR X (inplaceOp op) r) (hos : OpS X.K r o) (hv : DE X W e val)
    (ha : ∀ ov iv new, augStore ie ov iv new = (do holding [new, ov, iv] (setItem ov iv new); release [new, ov, iv] []; pure .next) := by intros; rfl) : DS X W (.AugAssign (.Subscript oe ie tpos) op e pos) (sAugK i kw o val) := by
  obtain ⟨ti, pi, li⟩ := hi.ex; obtain ⟨tv, pv, lv⟩ := hv.ex
  refine ⟨_, ps_daug hu ho pi pv hop ha, fun fm H σ ρ k D s hf q e => ?_⟩
  obtain ⟨q0, q⟩ := q
  obtain ⟨ks0, xs0, h0, _⟩ := modK_spec q0
  obtain ⟨l, kvs0, hl, _, _, _⟩ := s.own_dic h0
  refine ⟨_, hl, li fm H σ ρ _ k.ex _ s q (e.xok hf) fun iv H1 ed ρ1 q1 g1 r1 => ?_⟩
  obtain ⟨j, rfl, rfl, q1'⟩ := keyD_rep q1 r1; replace q1 := q1'; clear q1'
  obtain ⟨ks, xs, h1, z, hz, q2⟩ := modK_spec q1
  obtain ⟨l', kvs, hl', hH, hk, hr⟩ := g1.rs.own_dic h1
  rw [hl] at hl'; cases hl'
  subst hk
  obtain ⟨v, hv1, rv⟩ := getX_some hr hz
  refine ⟨l, v, rfl, by have := DGet.k (k := j) hH; rw [hv1] at this; exact this, lv fm H1 σ ρ1 _ k.ex _ g1.rs q2 ((e.xok hf).to g1) fun u H2 d ρ2 q3 g2 r2 => ?_⟩
  refine hos _ H2 v u z d _ _ g2.rs.trk (g2.go.rep rv) r2 q3 fun w z' H3 q4 al rw' => ?_
  obtain ⟨ls, ys, h3, hlen, q5⟩ := modK_spec q4
  have g3 := (To.refl g2.rs).alc al
  obtain ⟨l', kvs', hl', hH', hk', hr'⟩ := g3.rs.own_dic h3
  rw [hl] at hl'; cases hl'
  subst hk'
  have t3 := g3.rs.updK (ys := putXs (kvs'.map (·.1)) ys j z') (us := L2.putK kvs' j w) hl h3 hH' (put_vals rw' hr')
  rw [put_keys] at t3
  exact ⟨_, DPut.k hH' (by rw [List.length_map] at hlen; rw [← lim]; exact hlen), e.nx _ _ _ q5 t3.rs (((g1.trans g2).trans g3).trans t3).go.sub⟩
/-! ### calls: len(d), dict(d), list(d), sorted(d) -/
def lenKL : OL := fun ds k => match ds with | [.dic ks xs] => k (.int ks.length) | _ => False
/-- a new list or dict made of a dict -/
def wOfK (f : List Key → List D → (OD → Prop) → Prop) (a : WE) : WO := fun ρ Q R => a ρ (fun d ρ1 => dicD d fun ks xs => f ks xs fun o => Q o ρ1) R
def wOfKB (f : List Key → List D → (OD → Prop) → Prop) (i : Nat) : WO := fun ρ Q _ => dicOf (ρ.at i) fun ks xs => f ks xs fun o => Q o ρ
def fCopy : List Key → List D → (OD → Prop) → Prop := fun ks xs k => k (.dic ks xs)
def fKeys : List Key → List D → (OD → Prop) → Prop := fun ks _ k => k (.lst (ks.map kD))
theorem kD_rep {H : Hp} (j : Key) : Rep K H (kV j) (kD j) := by
  cases j
  · exact .int _
  · exact .str _
theorem reps_keys {H : Hp} : ∀ kvs : List (Key × V), Reps K H (kvs.map fun kv => kV kv.1) ((kvs.map (·.1)).map kD)
  | [] => .nil
  | p :: kvs => .cons (kD_rep _) (reps_keys kvs)
theorem do_copyK {x : Str} {p pos : Pos} {e : Expr} {a : WE} (hg : Gl X x) (hm : X.mg x = none) (hv : bootBuiltins x = some (.type "dict")) (ha : DE X W e a) (hn : x ≠ "__name__" := by decide) (hdb : (x == ("__debug__" : Str)) = false := by decide)
    (hs : starEach [e] X.env = (false, eval e X.env) :: starEach [] X.env := by rfl) : DO X W (.Call (.Name x p) [e] [] pos) (wOfK fCopy a) := by
  obtain ⟨t, pt, l⟩ := ha.ex
  refine ⟨_, pe_callTy call_dictD hg hm hv (pa_cons pt pa_nil hs) hn hdb hs, fun fm H σ ρ Q R QV s q x k => l fm H σ ρ _ R _ s q x fun v H1 d ρ1 q1 g1 r1 => ?_⟩
  obtain ⟨b, kvs, xs, rfl, hrd, hr, _, q2⟩ := dicD_rep q1 r1
  exact ⟨b, kvs, rfl, rd_mono hid_le hrd, fun p hp => k p _ _ ρ1 q2 ((new_dic g1.rs hp hr).of g1)⟩
theorem do_copyKB {x y : Str} {p pos p' : Pos} (i : Nat) (hg : Gl X x) (hm : X.mg x = none) (hv : bootBuiltins x = some (.type "dict")) (ha : PE X (.Name y p') (tVar i)) (hn : x ≠ "__name__" := by decide) (hdb : (x == ("__debug__" : Str)) = false := by decide)
    (hs : starEach [.Name y p'] X.env = (false, eval (.Name y p') X.env) :: starEach [] X.env := by rfl) : DO X W (.Call (.Name x p) [.Name y p'] [] pos) (wOfKB fCopy i) := by
  refine ⟨_, pe_callTy call_dictD hg hm hv (pa_cons ha pa_nil hs) hn hdb hs, fun fm H σ ρ Q R QV s q x k => ?_⟩
  obtain ⟨a, kvs, ds, hv', hrd, hr, q2⟩ := s.dicOf q
  exact ⟨_, hv', a, kvs, rfl, hrd, fun p hp => k p _ _ ρ q2 (new_dic s hp hr)⟩
theorem do_keysK {x : Str} {p pos : Pos} {e : Expr} {a : WE} (hc : X.calm = true) (hg : Gl X x) (hm : X.mg x = none) (hv : bootBuiltins x = some (.type "list")) (ha : DE X W e a) (hn : x ≠ "__name__" := by decide) (hdb : (x == ("__debug__" : Str)) = false := by decide)
    (hs : starEach [e] X.env = (false, eval e X.env) :: starEach [] X.env := by rfl) : DO X W (.Call (.Name x p) [e] [] pos) (wOfK fKeys a) := by
  obtain ⟨t, pt, l⟩ := ha.ex
  refine ⟨_, pe_callTy (call_listD hc) hg hm hv (pa_cons pt pa_nil hs) hn hdb hs, fun fm H σ ρ Q R QV s q x k => l fm H σ ρ _ R _ s q x fun v H1 d ρ1 q1 g1 r1 => ?_⟩
  obtain ⟨b, kvs, xs, rfl, hrd, hr, _, q2⟩ := dicD_rep q1 r1
  exact ⟨b, kvs, rfl, rd_mono hid_le hrd, fun p hp => k p _ _ ρ1 q2 ((new_lst g1.rs hp (reps_keys kvs)).of g1)⟩
theorem do_keysKB {x y : Str} {p pos p' : Pos} (hc : X.calm = true) (i : Nat) (hg : Gl X x) (hm : X.mg x = none) (hv : bootBuiltins x = some (.type "list")) (ha : PE X (.Name y p') (tVar i)) (hn : x ≠ "__name__" := by decide) (hdb : (x == ("__debug__" : Str)) = false := by decide)
    (hs : starEach [.Name y p'] X.env = (false, eval (.Name y p') X.env) :: starEach [] X.env := by rfl) : DO X W (.Call (.Name x p) [.Name y p'] [] pos) (wOfKB fKeys i) := by
  refine ⟨_, pe_callTy (call_listD hc) hg hm hv (pa_cons ha pa_nil hs) hn hdb hs, fun fm H σ ρ Q R QV s q x k => ?_⟩
  obtain ⟨a, kvs, ds, hv', hrd, hr, q2⟩ := s.dicOf q
  exact ⟨_, hv', a, kvs, rfl, hrd, fun p hp => k p _ _ ρ q2 (new_lst s hp (reps_keys kvs))⟩
/-- sorted(d), sorted(xs): ints, ascending -/
def fSorted : List Key → List D → (OD → Prop) → Prop := fun ks _ k => ∃ ns : List Int, ks = ns.map Sum.inl ∧ ns.length < 64 ∧ ∀ ys : List Int, ys.Perm ns → ys.Pairwise (· ≤ ·) → k (.lst (ys.map .int))
theorem do_sortK {x : Str} {p pos : Pos} {e : Expr} {a : WE} (hc : X.calm = true) (hg : Gl X x) (hm : X.mg x = none) (hv : bootBuiltins x = some (.builtin "sorted")) (ha : DE X W e a) (hn : x ≠ "__name__" := by decide) (hdb : (x == ("__debug__" : Str)) = false := by decide)
    (hs : starEach [e] X.env = (false, eval e X.env) :: starEach [] X.env := by rfl) : DO X W (.Call (.Name x p) [e] [] pos) (wOfK fSorted a) := by
  obtain ⟨t, pt, l⟩ := ha.ex
  refine ⟨_, pe_callB (call_sortedDI hc) hg hm hv (pa_cons pt pa_nil hs) hn hdb hs, fun fm H σ ρ Q R QV s q x k => l fm H σ ρ _ R _ s q x fun v H1 d ρ1 q1 g1 r1 => ?_⟩
  obtain ⟨b, kvs, xs, rfl, hrd, hr, _, ns, hk, h64, q2⟩ := dicD_rep q1 r1
  exact ⟨b, kvs, ns, rfl, rd_mono hid_le hrd, hk, h64, fun ys p e1 e2 hp => k p _ _ ρ1 (q2 ys e1 e2) ((new_lst g1.rs hp (reps_ints ys)).of g1)⟩
theorem do_sortKB {x y : Str} {p pos p' : Pos} (hc : X.calm = true) (i : Nat) (hg : Gl X x) (hm : X.mg x = none) (hv : bootBuiltins x = some (.builtin "sorted")) (ha : PE X (.Name y p') (tVar i)) (hn : x ≠ "__name__" := by decide) (hdb : (x == ("__debug__" : Str)) = false := by decide)
    (hs : starEach [.Name y p'] X.env = (false, eval (.Name y p') X.env) :: starEach [] X.env := by rfl) : DO X W (.Call (.Name x p) [.Name y p'] [] pos) (wOfKB fSorted i) := by
  refine ⟨_, pe_callB (call_sortedDI hc) hg hm hv (pa_cons ha pa_nil hs) hn hdb hs, fun fm H σ ρ Q R QV s q x k => ?_⟩
  obtain ⟨a, kvs, ds, hv', hrd, hr, ns, hk, h64, q2⟩ := s.dicOf q
  exact ⟨_, hv', a, kvs, ns, rfl, hrd, hk, h64, fun ys p e1 e2 hp => k p _ _ ρ (q2 ys e1 e2) (new_lst s hp (reps_ints ys))⟩
def wSortL (a : WE) : WO := fun ρ Q R => a ρ (fun d ρ1 => lstD d fun xs => ∃ ns : List Int, xs = ns.map .int ∧ ∀ ys : List Int, ys.Perm ns → ys.Pairwise (· ≤ ·) → Q (.lst (ys.map .int)) ρ1) R
theorem do_sortL {x : Str} {p pos : Pos} {e : Expr} {a : WE} (hg : Gl X x) (hm : X.mg x = none) (hv : bootBuiltins x = some (.builtin "sorted")) (ha : DE X W e a) (hn : x ≠ "__name__" := by decide) (hdb : (x == ("__debug__" : Str)) = false := by decide)
    (hs : starEach [e] X.env = (false, eval e X.env) :: starEach [] X.env := by rfl) : DO X W (.Call (.Name x p) [e] [] pos) (wSortL a) := by
  obtain ⟨t, pt, l⟩ := ha.ex
  refine ⟨_, pe_callB cr_sortedI hg hm hv (pa_cons pt pa_nil hs) hn hdb hs, fun fm H σ ρ Q R QV s q x k => l fm H σ ρ _ R _ s q x fun v H1 d ρ1 q1 g1 r1 => ?_⟩
  cases d <;> first | exact q1.elim | skip
  obtain ⟨ns, rfl, q2⟩ := q1
  obtain ⟨b, us, rfl, h1, h2⟩ := r1.lst_inv
  cases reps_int_inv h2
  exact ⟨b, ns, rfl, .inl (rd_mono hid_le h1), fun ys p e1 e2 hp => k p _ _ ρ1 (q2 ys e1 e2) ((new_lst g1.rs hp (reps_ints ys)).of g1)⟩
end
end DL

set_option Elab.async false
set_option linter.all false
set_option maxRecDepth 100000
namespace DL
open PySem L2

/-- a hidden dict is another one now -/
theorem RS.hidUpdK {K : PySem.W.Frag} {fm : Fm} {H : Hp} {σ : St} {ρ : Env} {p : Addr} {xs ys : List (Key × V)} (r : RS K (fm.ex [p]) H σ ρ) (hp : H p = some (.dK xs)) : RS K (fm.ex [p]) (upd H p (.dK ys)) σ ρ ∧ (fm.ex [p]).hid σ ρ (upd H p (.dK ys)) = (fm.ex [p]).hid σ ρ H := by
  have mp : p ∈ (fm.ex [p]).E ++ owned σ ρ := List.mem_append_left _ (List.mem_append_left _ List.mem_cons_self)
  have nO : p ∉ owned σ ρ := fun z => by
    have nd := r.nd
    rw [show (fm.ex [p]).E ++ owned σ ρ = [p] ++ (fm.E ++ owned σ ρ) from List.append_assoc ..] at nd
    exact (List.nodup_append.mp nd).2.2 p List.mem_cons_self p (List.mem_append_right _ z) rfl
  have hid : (fm.ex [p]).hid σ ρ (upd H p (.dK ys)) = (fm.ex [p]).hid σ ρ H := by
    funext b
    by_cases q : b ∈ (fm.ex [p]).E ++ owned σ ρ
    · exact (hide_in q).trans (hide_in q).symm
    · have nb : b ≠ p := fun z => q (z ▸ mp)
      exact ((hide_out q).trans (upd_ne nb)).trans (hide_out q).symm
  have kp : ∀ b o, b ≠ p → H b = some o → upd H p (.dK ys) b = some o := fun b o n h => (upd_ne n).trans h
  refine ⟨⟨r.len, fun j => ?_, r.nd, fun b hb => ?_, fun b C dx fs h => ?_, fun b C dx fs h => ?_, fun c b hc h => ?_, fun b o h => ?_, r.fx⟩, hid⟩
  · rw [hid]
    have s := r.sl j
    have ne : ∀ b ∈ slotAs (σ.getD j none) (Env.at ρ j), b ≠ p := fun b hb z => by
      subst z
      by_cases hj : j < ρ.length
      · exact nO (owned_mem r.len hj hb)
      · have : σ.getD j none = none := by rw [List.getD_eq_getElem?_getD, List.getElem?_eq_none (by rw [r.len]; omega)]; rfl
        rw [this] at hb; simp [slotAs] at hb
    revert s ne
    cases σ.getD j none with
    | none => cases Env.at ρ j <;> exact fun h _ => h
    | some v =>
      cases Env.at ρ j with
      | no => exact fun h _ => h
      | v d => exact fun h _ => h
      | own o =>
        cases v with
        | ref c =>
          intro s ne
          cases o with
          | lst ds => obtain ⟨ws, h1, h2⟩ := s; exact ⟨ws, kp _ _ (ne c (by simp [slotAs, ownAs])) h1, h2⟩
          | dic ks ds => obtain ⟨ws, h1, h2⟩ := s; exact ⟨ws, kp _ _ (ne c (by simp [slotAs, ownAs])) h1, h2⟩
          | ins C dx ns ds => obtain ⟨ws, h1, h2, h3, h4⟩ := s; exact ⟨ws, kp _ _ (ne c (by simp [slotAs, ownAs])) h1, h2, h3, kp _ _ (ne dx (by simp [slotAs, ownAs])) h4⟩
        | _ => exact fun h _ => h
  · obtain ⟨⟨o, h, w⟩, g⟩ := r.tr b hb
    by_cases q : b = p
    · subst q; exact ⟨⟨_, upd_same, trivial⟩, g⟩
    · exact ⟨⟨o, kp b o q h, w⟩, g⟩
  · have nb : b ≠ p := fun z => by subst z; rw [upd_same] at h; cases h
    rw [upd_ne nb] at h
    have := r.ins b C dx fs h
    exact kp _ _ (fun z => by subst z; rw [hp] at this; cases this) this
  · have nb : b ≠ p := fun z => by subst z; rw [upd_same] at h; cases h
    rw [upd_ne nb] at h
    exact r.cl b C dx fs h
  · have nc : c ≠ p := fun z => by subst z; rw [upd_same] at h; cases h
    rw [upd_ne nc] at h
    obtain ⟨h1, C, fs, h2⟩ := r.co c b hc h
    exact ⟨h1, C, fs, kp _ _ (fun z => by subst z; rw [hp] at h2; cases h2) h2⟩
  · have g := (r.tr p mp).2
    exact kp b o (fun z => by subst z; rw [show (fm.ex [b]).G b = fm.G b from rfl] at g; rw [g] at h; cases h) (r.keep b o h)
section
variable {X : Cx} {W : WW} {K : PySem.W.Frag} {vs : List Nat}
/-! ## comprehensions, from where the walk stands -/
theorem comp_pt {tg : TG} {tt : TT} {te : TE} {g : WG} {t : WT} {e : WE} {fm : Fm} {H1 : Hp} {σ : St} {ρ1 : Env} {J : It} {ds : List DL.D} {Q : OD → Env → Prop} {QV : VK} (hio : ∀ v ∈ vs, v ∉ W.io) (hfx : ∀ p ∈ fm.F, p.1 ∈ W.io) (hg : LG K W.io vs tg g) (ht : LT K W.no tt t) (he : LE K W.no te e)
    (r1 : RS K fm H1 σ ρ1) (wk : WalkD K J (fm.hid σ ρ1 H1) ds) (q1 : wipeK ρ1 vs fun ρ2 => compGo g t e vs ds [] ρ2 fun acc ρ3 => Q (.lst acc) ρ3)
    (k : ∀ p H' ys ρ', Q (.lst ys) ρ' → NewO K fm σ H1 ρ1 H' ρ' p (.lst ys) → QV (.ref p) H') : ∀ D, H1 D = none → ∃ Wd : Nat → Nat → Hp → Prop, (∃ m, Wd 0 m (upd H1 D (.lst []))) ∧ ∀ i m H, Wd i m H →
    (J.stop i H ∧ QV (.ref D) H) ∨ (J.go i H ∧ ∃ Nx : Hp → Prop, (∀ H', Nx H' → ∃ m', m' < m ∧ Wd (i + 1) m' H') ∧ ∀ x H', J.yld i H x H' → tg x (wipe σ vs) H' fun σ2 H2 => wipe σ2 vs = wipe σ vs ∧ tt σ2 H2 fun b H3 =>
      if b = true then te σ2 H3 fun y H4 => ∃ acc, H4 D = some (.lst acc) ∧ acc.length < sizeLine ∧ Nx (upd H4 D (.lst (acc ++ [y]))) else Nx H3) := by
    intro D hD
    have hF : ∀ p ∈ fm.F, p.1 ∉ vs := fun p hp z => hio _ z (hfx p hp)
    obtain ⟨q2, wp⟩ := wipeK_spec q1
    obtain ⟨w1, w2, w3⟩ := wp r1 hF
    -- what the loop keeps
    let Inv' : Nat → Hp → Prop := fun j H' => j ≤ ds.length ∧ ∃ ρ' acc accD, RS K (fm.ex [D]) H' (wipe σ vs) ρ' ∧ Mo (fm.hid (wipe σ vs) (wipeE ρ1 vs) H1) ((fm.ex [D]).hid (wipe σ vs) ρ' H') ∧ (∀ b o, H1 b = some o → b ∉ owned σ ρ1 → H' b = some o) ∧
      (∀ a ∈ owned (wipe σ vs) ρ', a ∈ owned σ ρ1) ∧ (∀ v ∈ vs, Env.at ρ' v = .no) ∧ H' D = some (.lst acc) ∧ Reps K ((fm.ex [D]).hid (wipe σ vs) ρ' H') acc accD ∧ compGo g t e vs (ds.drop j) accD ρ' fun acc ρ3 => Q (.lst acc) ρ3
    refine ⟨fun j m H' => m = ds.length - j ∧ Inv' j H', ⟨_, rfl, Nat.zero_le _, wipeE ρ1 vs, [], [], w1.newE' hD, ?_, fun b o h n => (upd_ne (ne_of_none h hD)).trans h, w3, ?_, upd_same, .nil, q2⟩, ?_⟩
    · intro b o h
      obtain ⟨m, h⟩ := hide_some h
      have nb : b ≠ D := ne_of_none h hD
      refine (hide_out ?_).trans ((upd_ne nb).trans h)
      show b ∉ (D :: fm.E) ++ owned (wipe σ vs) (wipeE ρ1 vs)
      rw [List.cons_append, List.mem_cons, not_or]; exact ⟨nb, m⟩
    · intro v hv; rw [at_wipeE (wipe_lt q1), if_pos hv]
    rintro j m H2 ⟨rfl, hj, ρ', acc, accD, s2, mo, fr, sh, nos, hH, rp, cg⟩
    have wkE : Mo (fm.hid σ ρ1 H1) ((fm.ex [D]).hid (wipe σ vs) ρ' H2) := fun b o h => mo b o (w2 b o h)
    obtain ⟨st, tn⟩ := wk _ H2 wkE s2.trk
    by_cases hlt : j < ds.length
    · have hd : ds.drop j = ds[j] :: ds.drop (j + 1) := List.drop_eq_getElem_cons hlt
      rw [hd] at cg
      obtain ⟨go, yl⟩ := tn j ds[j] (List.getElem?_eq_getElem hlt)
      refine .inr ⟨go, fun H' => Inv' (j + 1) H', fun H' h => ⟨ds.length - (j + 1), by omega, rfl, h⟩, fun y0 H3 yy => ?_⟩
      obtain ⟨al, rx⟩ := yl y0 H3 yy
      have t3 := (To.refl s2).alc al
      have hD3 : H3 D = some (.lst acc) := al.up _ _ hH
      refine hg (fm.ex [D]) H3 (wipe σ vs) ρ' y0 _ _ _ t3.rs hfx rx cg fun σ4 ρ4 q4 s4 m4 e4 l4 => ⟨?_, ?_⟩
      · have : wipe σ4 vs = wipe (wipe σ vs) vs := wipe_eq e4 l4
        rw [this]
        apply List.ext_getElem?
        intro j'
        rw [wipe_get, wipe_get (σ := σ), wipe_length]
        by_cases z : j' ∈ vs <;> simp [z]
      -- back to the wiped slots
      have back : ∀ (H5 : Hp) (ρ5 : Env) (accD' : List DL.D) (acc' : List V), To K (fm.ex [D]) σ4 H3 ρ4 H5 ρ5 → H5 D = some (.lst acc) → (∀ us, Reps K ((fm.ex [D]).hid σ4 ρ5 H5) us accD' → True) →
          (wipeK ρ5 vs fun ρ6 => compGo g t e vs (ds.drop (j + 1)) accD' ρ6 fun acc ρ3 => Q (.lst acc) ρ3) → Reps K ((fm.ex [D]).hid σ4 ρ5 H5) acc' accD' → (H6 : Hp) → (H6 = H5 ∧ acc' = acc ∨ H6 = upd H5 D (.lst acc')) → Inv' (j + 1) H6 := by
        intro H5 ρ5 accD' acc' t5 hD5 _ q5 rp5 H6 e6
        obtain ⟨q6, wp6⟩ := wipeK_spec q5
        obtain ⟨r6, m6, s6⟩ := wp6 t5.rs fun p hp => hF p hp
        have ew : wipe σ4 vs = wipe σ vs := by
          have : wipe σ4 vs = wipe (wipe σ vs) vs := wipe_eq e4 l4
          rw [this]
          apply List.ext_getElem?
          intro j'
          rw [wipe_get, wipe_get (σ := σ), wipe_length]
          by_cases z : j' ∈ vs <;> simp [z]
        rw [ew] at r6 m6 s6
        have frm : ∀ b o, H1 b = some o → b ∉ owned σ ρ1 → H5 b = some o := fun b o h n => by
          refine t5.go.fr b o (al.up b o (fr b o h n)) fun z => ?_
          -- an own object of the turn's start is one of ours
          have ss : ∀ a ∈ owned σ4 ρ4, a ∈ owned (wipe σ vs) ρ' := fun a ha => by
            by_cases hv : (fm.ex [D]).hid (wipe σ vs) ρ' H3 a = none
            · by_cases z2 : a ∈ (fm.ex [D]).E ++ owned (wipe σ vs) ρ'
              · rcases List.mem_append.mp z2 with z3 | z3
                · exact absurd ha fun _ => (List.nodup_append.mp s4.nd).2.2 a z3 a ha rfl
                · exact z3
              · obtain ⟨⟨o', h', _⟩, _⟩ := s4.tr a (List.mem_append_right _ ha)
                have := (hide_out z2).symm.trans hv
                rw [h'] at this; cases this
            · cases hq : (fm.ex [D]).hid (wipe σ vs) ρ' H3 a with
              | none => exact absurd hq hv
              | some o' =>
                have := m4 a o' hq
                have := (hide_some this).1
                exact absurd (List.mem_append_right _ ha) this
          exact n (sh b (ss b z))
        have shh : ∀ a ∈ owned (wipe σ vs) (wipeE ρ5 vs), a ∈ owned σ ρ1 := fun a ha => by
          have h1 := t5.go.sh a (s6 a ha)
          by_cases z2 : a ∈ (fm.ex [D]).E ++ owned (wipe σ vs) ρ'
          · rcases List.mem_append.mp z2 with z3 | z3
            · exact absurd rfl ((List.nodup_append.mp s4.nd).2.2 a z3 a h1)
            · exact sh a z3
          · obtain ⟨⟨o', h', _⟩, _⟩ := s4.tr a (List.mem_append_right _ h1)
            have := m4 a o' ((hide_out z2).trans h')
            exact absurd (List.mem_append_right _ h1) (hide_some this).1
        have moo : Mo (fm.hid (wipe σ vs) (wipeE ρ1 vs) H1) ((fm.ex [D]).hid (wipe σ vs) (wipeE ρ5 vs) H5) := fun b o h => m6 b o (t5.go.sub b o (m4 b o (t3.go.sub b o (mo b o h))))
        have nn : ∀ v ∈ vs, Env.at (wipeE ρ5 vs) v = .no := fun v hv => by rw [at_wipeE (wipe_lt q5), if_pos hv]
        rcases e6 with ⟨rfl, rfl⟩ | rfl
        · exact ⟨hlt, _, _, _, r6, moo, frm, shh, nn, hD5, rp5.mono m6, q6⟩
        · obtain ⟨r7, e7⟩ := r6.hidUpd (ys := acc') hD5
          refine ⟨hlt, _, acc', _, r7, by rw [e7]; exact moo, fun b o h n => (upd_ne (ne_of_none h hD)).trans (frm b o h n), shh, nn, upd_same, by rw [e7]; exact rp5.mono m6, q6⟩
      have hno : XOk K W.no (fm.ex [D]) σ4 H3 ρ4 fun _ _ => False := ⟨hfx, fun _ _ _ _ _ z => z.elim⟩
      refine ht (fm.ex [D]) H3 σ4 ρ4 _ (fun _ _ => False) _ s4 q4 hno fun b H5 ρ5 q5 g5 => ?_
      have rpa : Reps K ((fm.ex [D]).hid σ4 ρ5 H5) acc accD := (((rp.mono t3.go.sub).mono m4).mono g5.go.sub)
      have dOwn : D ∉ owned σ4 ρ4 := fun z => (List.nodup_append.mp s4.nd).2.2 D (List.mem_append_left _ List.mem_cons_self) D z rfl
      have hD5 : H5 D = some (.lst acc) := g5.go.fr D _ hD3 dOwn
      cases b with
      | false => exact back H5 ρ5 accD acc g5 hD5 (fun _ _ => trivial) (q5.2 rfl) rpa H5 (.inl ⟨rfl, rfl⟩)
      | true =>
        refine he (fm.ex [D]) H5 σ4 ρ5 _ (fun _ _ => False) _ g5.rs (q5.1 rfl) (hno.to g5) fun z H6 d ρ6 q6 g6 r6 => ?_
        have dOwn5 : D ∉ owned σ4 ρ5 := fun zz => dOwn (g5.go.sh D zz)
        have hD6 : H6 D = some (.lst acc) := g6.go.fr D _ hD5 dOwn5
        have rpb := rpa.mono g6.go.sub
        refine ⟨acc, hD6, by rw [rpb.length, ← lim]; exact q6.1, ?_⟩
        exact back H6 ρ6 (accD ++ [d]) (acc ++ [z]) (g5.trans g6) hD6 (fun _ _ => trivial) q6.2 (rpb.append (.cons r6 .nil)) _ (.inr rfl)
    · have ej : j = ds.length := by omega
      subst ej
      rw [List.drop_length] at cg
      refine .inl ⟨st, ?_⟩
      obtain ⟨r3, e3⟩ := RS.unwipe s2 nos hF
      have hid3 : (fm.ex [D]).hid (wipe σ vs) ρ' H2 = (fm.ex [D]).hid σ ρ' H2 := by
        show hide (_ ++ owned (wipe σ vs) ρ') H2 = hide (_ ++ owned σ ρ') H2
        rw [e3]
      have wk3 : RS K fm H2 σ ρ' := RS.ex_weak (p := D) (o := .lst accD) trivial r3 (.inl ⟨acc, hH⟩)
      have sh3 : ∀ a ∈ owned σ ρ', a ∈ owned σ ρ1 := fun a ha => sh a (by rw [e3]; exact ha)
      refine k D H2 accD ρ' cg (⟨⟨wk3, fr, sh3⟩, r3, fun b o h => (congrFun hid3 b).symm.trans (wkE b o h), acc, hH, ?_⟩ : NewO K fm σ H1 ρ1 H2 ρ' D (.lst accD))
      have : (fm.ex [D]).hid σ ρ' H2 = hide (ownAs D (.lst accD) ++ (fm.E ++ owned σ ρ')) H2 := by
        show hide (([D] ++ fm.E) ++ owned σ ρ') H2 = hide ([D] ++ (fm.E ++ owned σ ρ')) H2
        rw [List.append_assoc]
      rw [← this, ← hid3]; exact rp
def compGoK (g : WG) (t : WT) (ke e : WE) (vs : List Nat) : List D → List Key → List D → Env → (List Key → List D → Env → Prop) → Prop
  | [], ks, xs, ρ, Q => Q ks xs ρ
  | d :: ds, ks, xs, ρ, Q => g d ρ fun ρ1 => t ρ1 (fun b ρ2 => (b = true → ke ρ2 (fun kd ρ3 => e ρ3 (fun y ρ4 => keyD kd fun j => ks.length < LIM ∧ wipeK ρ4 vs fun ρ5 => compGoK g t ke e vs ds (putKs ks j) (putXs ks xs j y) ρ5 Q) fun _ _ => False) fun _ _ => False) ∧ (b = false → wipeK ρ2 vs fun ρ4 => compGoK g t ke e vs ds ks xs ρ4 Q)) fun _ _ => False
theorem comp_ptK {tg : TG} {tt : TT} {tk te : TE} {g : WG} {t : WT} {ke e : WE} {fm : Fm} {H1 : Hp} {σ : St} {ρ1 : Env} {J : It} {ds : List DL.D} {Q : OD → Env → Prop} {QV : VK} (hio : ∀ v ∈ vs, v ∉ W.io) (hfx : ∀ p ∈ fm.F, p.1 ∈ W.io) (hg : LG K W.io vs tg g) (ht : LT K W.no tt t) (hk : LE K W.no tk ke) (he : LE K W.no te e)
    (r1 : RS K fm H1 σ ρ1) (wk : WalkD K J (fm.hid σ ρ1 H1) ds) (q1 : wipeK ρ1 vs fun ρ2 => compGoK g t ke e vs ds [] [] ρ2 fun ks xs ρ3 => Q (.dic ks xs) ρ3)
    (k : ∀ p H' ls ys ρ', Q (.dic ls ys) ρ' → NewO K fm σ H1 ρ1 H' ρ' p (.dic ls ys) → QV (.ref p) H') : ∀ D, H1 D = none → ∃ Wd : Nat → Nat → Hp → Prop, (∃ m, Wd 0 m (upd H1 D (.dK []))) ∧ ∀ i m H, Wd i m H →
    (J.stop i H ∧ QV (.ref D) H) ∨ (J.go i H ∧ ∃ Nx : Hp → Prop, (∀ H', Nx H' → ∃ m', m' < m ∧ Wd (i + 1) m' H') ∧ ∀ x H', J.yld i H x H' → tg x (wipe σ vs) H' fun σ2 H2 => wipe σ2 vs = wipe σ vs ∧ tt σ2 H2 fun b H3 =>
      if b = true then tk σ2 H3 fun y H4 => te σ2 H4 fun z H5 => ∃ kvs k, y = kV k ∧ H5 D = some (.dK kvs) ∧ kvs.length < sizeLine ∧ Nx (upd H5 D (.dK (L2.putK kvs k z))) else Nx H3) := by
    intro D hD
    have hF : ∀ p ∈ fm.F, p.1 ∉ vs := fun p hp z => hio _ z (hfx p hp)
    obtain ⟨q2, wp⟩ := wipeK_spec q1
    obtain ⟨w1, w2, w3⟩ := wp r1 hF
    -- what the loop keeps
    let Inv' : Nat → Hp → Prop := fun j H' => j ≤ ds.length ∧ ∃ (ρ' : Env) (acc : List (Key × V)) (accD : List DL.D), RS K (fm.ex [D]) H' (wipe σ vs) ρ' ∧ Mo (fm.hid (wipe σ vs) (wipeE ρ1 vs) H1) ((fm.ex [D]).hid (wipe σ vs) ρ' H') ∧ (∀ b o, H1 b = some o → b ∉ owned σ ρ1 → H' b = some o) ∧
      (∀ a ∈ owned (wipe σ vs) ρ', a ∈ owned σ ρ1) ∧ (∀ v ∈ vs, Env.at ρ' v = .no) ∧ H' D = some (.dK acc) ∧ Reps K ((fm.ex [D]).hid (wipe σ vs) ρ' H') (acc.map (·.2)) accD ∧ compGoK g t ke e vs (ds.drop j) (acc.map (·.1)) accD ρ' fun ks xs ρ3 => Q (.dic ks xs) ρ3
    refine ⟨fun j m H' => m = ds.length - j ∧ Inv' j H', ⟨_, rfl, Nat.zero_le _, wipeE ρ1 vs, [], [], w1.newE hD trivial (fun _ _ _ z => nomatch z) (fun _ z => nomatch z), ?_, fun b o h n => (upd_ne (ne_of_none h hD)).trans h, w3, ?_, upd_same, .nil, q2⟩, ?_⟩
    · intro b o h
      obtain ⟨m, h⟩ := hide_some h
      have nb : b ≠ D := ne_of_none h hD
      refine (hide_out ?_).trans ((upd_ne nb).trans h)
      show b ∉ (D :: fm.E) ++ owned (wipe σ vs) (wipeE ρ1 vs)
      rw [List.cons_append, List.mem_cons, not_or]; exact ⟨nb, m⟩
    · intro v hv; rw [at_wipeE (wipe_lt q1), if_pos hv]
    rintro j m H2 ⟨rfl, hj, ρ', acc, accD, s2, mo, fr, sh, nos, hH, rp, cg⟩
    have wkE : Mo (fm.hid σ ρ1 H1) ((fm.ex [D]).hid (wipe σ vs) ρ' H2) := fun b o h => mo b o (w2 b o h)
    obtain ⟨st, tn⟩ := wk _ H2 wkE s2.trk
    by_cases hlt : j < ds.length
    · have hd : ds.drop j = ds[j] :: ds.drop (j + 1) := List.drop_eq_getElem_cons hlt
      rw [hd] at cg
      obtain ⟨go, yl⟩ := tn j ds[j] (List.getElem?_eq_getElem hlt)
      refine .inr ⟨go, fun H' => Inv' (j + 1) H', fun H' h => ⟨ds.length - (j + 1), by omega, rfl, h⟩, fun y0 H3 yy => ?_⟩
      obtain ⟨al, rx⟩ := yl y0 H3 yy
      have t3 := (To.refl s2).alc al
      have hD3 : H3 D = some (.dK acc) := al.up _ _ hH
      refine hg (fm.ex [D]) H3 (wipe σ vs) ρ' y0 _ _ _ t3.rs hfx rx cg fun σ4 ρ4 q4 s4 m4 e4 l4 => ⟨?_, ?_⟩
      · have : wipe σ4 vs = wipe (wipe σ vs) vs := wipe_eq e4 l4
        rw [this]
        apply List.ext_getElem?
        intro j'
        rw [wipe_get, wipe_get (σ := σ), wipe_length]
        by_cases z : j' ∈ vs <;> simp [z]
      -- back to the wiped slots
      have back : ∀ (H5 : Hp) (ρ5 : Env) (accD' : List DL.D) (acc' : List (Key × V)), To K (fm.ex [D]) σ4 H3 ρ4 H5 ρ5 → H5 D = some (.dK acc) →
          (wipeK ρ5 vs fun ρ6 => compGoK g t ke e vs (ds.drop (j + 1)) (acc'.map (·.1)) accD' ρ6 fun ks xs ρ3 => Q (.dic ks xs) ρ3) → Reps K ((fm.ex [D]).hid σ4 ρ5 H5) (acc'.map (·.2)) accD' → (H6 : Hp) → (H6 = H5 ∧ acc' = acc ∨ H6 = upd H5 D (.dK acc')) → Inv' (j + 1) H6 := by
        intro H5 ρ5 accD' acc' t5 hD5 q5 rp5 H6 e6
        obtain ⟨q6, wp6⟩ := wipeK_spec q5
        obtain ⟨r6, m6, s6⟩ := wp6 t5.rs fun p hp => hF p hp
        have ew : wipe σ4 vs = wipe σ vs := by
          have : wipe σ4 vs = wipe (wipe σ vs) vs := wipe_eq e4 l4
          rw [this]
          apply List.ext_getElem?
          intro j'
          rw [wipe_get, wipe_get (σ := σ), wipe_length]
          by_cases z : j' ∈ vs <;> simp [z]
        rw [ew] at r6 m6 s6
        have frm : ∀ b o, H1 b = some o → b ∉ owned σ ρ1 → H5 b = some o := fun b o h n => by
          refine t5.go.fr b o (al.up b o (fr b o h n)) fun z => ?_
          -- an own object of the turn's start is one of ours
          have ss : ∀ a ∈ owned σ4 ρ4, a ∈ owned (wipe σ vs) ρ' := fun a ha => by
            by_cases hv : (fm.ex [D]).hid (wipe σ vs) ρ' H3 a = none
            · by_cases z2 : a ∈ (fm.ex [D]).E ++ owned (wipe σ vs) ρ'
              · rcases List.mem_append.mp z2 with z3 | z3
                · exact absurd ha fun _ => (List.nodup_append.mp s4.nd).2.2 a z3 a ha rfl
                · exact z3
              · obtain ⟨⟨o', h', _⟩, _⟩ := s4.tr a (List.mem_append_right _ ha)
                have := (hide_out z2).symm.trans hv
                rw [h'] at this; cases this
            · cases hq : (fm.ex [D]).hid (wipe σ vs) ρ' H3 a with
              | none => exact absurd hq hv
              | some o' =>
                have := m4 a o' hq
                have := (hide_some this).1
                exact absurd (List.mem_append_right _ ha) this
          exact n (sh b (ss b z))
        have shh : ∀ a ∈ owned (wipe σ vs) (wipeE ρ5 vs), a ∈ owned σ ρ1 := fun a ha => by
          have h1 := t5.go.sh a (s6 a ha)
          by_cases z2 : a ∈ (fm.ex [D]).E ++ owned (wipe σ vs) ρ'
          · rcases List.mem_append.mp z2 with z3 | z3
            · exact absurd rfl ((List.nodup_append.mp s4.nd).2.2 a z3 a h1)
            · exact sh a z3
          · obtain ⟨⟨o', h', _⟩, _⟩ := s4.tr a (List.mem_append_right _ h1)
            have := m4 a o' ((hide_out z2).trans h')
            exact absurd (List.mem_append_right _ h1) (hide_some this).1
        have moo : Mo (fm.hid (wipe σ vs) (wipeE ρ1 vs) H1) ((fm.ex [D]).hid (wipe σ vs) (wipeE ρ5 vs) H5) := fun b o h => m6 b o (t5.go.sub b o (m4 b o (t3.go.sub b o (mo b o h))))
        have nn : ∀ v ∈ vs, Env.at (wipeE ρ5 vs) v = .no := fun v hv => by rw [at_wipeE (wipe_lt q5), if_pos hv]
        rcases e6 with ⟨rfl, rfl⟩ | rfl
        · exact ⟨hlt, _, _, _, r6, moo, frm, shh, nn, hD5, rp5.mono m6, q6⟩
        · obtain ⟨r7, e7⟩ := r6.hidUpdK (ys := acc') hD5
          refine ⟨hlt, _, acc', _, r7, by rw [e7]; exact moo, fun b o h n => (upd_ne (ne_of_none h hD)).trans (frm b o h n), shh, nn, upd_same, by rw [e7]; exact rp5.mono m6, q6⟩
      have hno : XOk K W.no (fm.ex [D]) σ4 H3 ρ4 fun _ _ => False := ⟨hfx, fun _ _ _ _ _ z => z.elim⟩
      refine ht (fm.ex [D]) H3 σ4 ρ4 _ (fun _ _ => False) _ s4 q4 hno fun b H5 ρ5 q5 g5 => ?_
      have rpa : Reps K ((fm.ex [D]).hid σ4 ρ5 H5) (acc.map (·.2)) accD := (((rp.mono t3.go.sub).mono m4).mono g5.go.sub)
      have dOwn : D ∉ owned σ4 ρ4 := fun z => (List.nodup_append.mp s4.nd).2.2 D (List.mem_append_left _ List.mem_cons_self) D z rfl
      have hD5 : H5 D = some (.dK acc) := g5.go.fr D _ hD3 dOwn
      cases b with
      | false => exact back H5 ρ5 accD acc g5 hD5 (q5.2 rfl) rpa H5 (.inl ⟨rfl, rfl⟩)
      | true =>
        refine hk (fm.ex [D]) H5 σ4 ρ5 _ (fun _ _ => False) _ g5.rs (q5.1 rfl) (hno.to g5) fun kz H6 kd ρ6 q6 g6 r6 => ?_
        refine he (fm.ex [D]) H6 σ4 ρ6 _ (fun _ _ => False) _ g6.rs q6 (hno.to (g5.trans g6)) fun z H7 d ρ7 q7 g7 r7 => ?_
        obtain ⟨j', rfl, rfl, q7'⟩ := keyD_rep q7 (g7.go.rep r6)
        have dOwn5 : D ∉ owned σ4 ρ5 := fun zz => dOwn (g5.go.sh D zz)
        have dOwn6 : D ∉ owned σ4 ρ6 := fun zz => dOwn5 (g6.go.sh D zz)
        have hD7 : H7 D = some (.dK acc) := g7.go.fr D _ (g6.go.fr D _ hD5 dOwn5) dOwn6
        have rpb := (rpa.mono g6.go.sub).mono g7.go.sub
        refine ⟨acc, j', rfl, hD7, by rw [← lim]; simpa using q7'.1, ?_⟩
        have q8 := q7'.2
        refine back H7 ρ7 (putXs (acc.map (·.1)) accD j' d) (L2.putK acc j' z) ((g5.trans g6).trans g7) hD7 ?_ (put_vals r7 rpb) _ (.inr rfl)
        rw [put_keys]; exact q8
    · have ej : j = ds.length := by omega
      subst ej
      rw [List.drop_length] at cg
      refine .inl ⟨st, ?_⟩
      obtain ⟨r3, e3⟩ := RS.unwipe s2 nos hF
      have hid3 : (fm.ex [D]).hid (wipe σ vs) ρ' H2 = (fm.ex [D]).hid σ ρ' H2 := by
        show hide (_ ++ owned (wipe σ vs) ρ') H2 = hide (_ ++ owned σ ρ') H2
        rw [e3]
      have wk3 : RS K fm H2 σ ρ' := RS.ex_weak (p := D) (o := .dic (acc.map (·.1)) accD) trivial r3 (.inr ⟨acc, hH⟩)
      have sh3 : ∀ a ∈ owned σ ρ', a ∈ owned σ ρ1 := fun a ha => sh a (by rw [e3]; exact ha)
      refine k D H2 (acc.map (fun p : Key × V => p.1)) accD ρ' cg (⟨⟨wk3, fr, sh3⟩, r3, fun b o h => (congrFun hid3 b).symm.trans (wkE b o h), acc, hH, rfl, ?_⟩ : NewO K fm σ H1 ρ1 H2 ρ' D (.dic (acc.map (fun p : Key × V => p.1)) accD))
      have : (fm.ex [D]).hid σ ρ' H2 = hide (ownAs D (.dic (acc.map (·.1)) accD) ++ (fm.E ++ owned σ ρ')) H2 := by
        show hide (([D] ++ fm.E) ++ owned σ ρ') H2 = hide ([D] ++ (fm.E ++ owned σ ρ')) H2
        rw [List.append_assoc]
      rw [← this, ← hid3]; exact rp

/-! ## dict comprehensions -/
def wDc (i : WI) (g : WG) (t : WT) (ke e : WE) (vs : List Nat) : WO := fun ρ Q R => i ρ (fun ds ρ1 => wipeK ρ1 vs fun ρ2 => compGoK g t ke e vs ds [] [] ρ2 fun ks xs ρ3 => Q (.dic ks xs) ρ3) R
theorem lo_dc {wi : TI} {tg : TG} {tt : TT} {tk te : TE} {i : WI} {g : WG} {t : WT} {ke e : WE} (hio : ∀ v ∈ vs, v ∉ W.io) (hi : LI K W wi i) (hg : LG K W.io vs tg g) (ht : LT K W.no tt t) (hk : LE K W.no tk ke) (he : LE K W.no te e) : LO K W (tDc wi tg tt tk te vs) (wDc i g t ke e vs) := fun fm H σ ρ Q R QV r q x k =>
  hi fm H σ ρ _ R _ r q x fun J H1 ds ρ1 q1 g1 wk => comp_ptK hio x.io hg ht hk he g1.rs wk q1 fun p H' ls ys ρ' q' n => k p H' _ ρ' q' (NewO.of g1 n)
theorem do_dc {kx vx tg iter : Expr} {ifs : List Expr} {scope : Scope} {own : List (Str × Nat)} {pos : Pos} {i : WI} {g : WG} {t : WT} {ke e : WE} (hc : X.calm = true) (hN : X.N.Nodup) (hi : DI X W tg iter i) (ok : BlkOk X.N X.env.scope scope own) (hio : ∀ v ∈ own.map (·.2), v ∉ W.io)
    (hg : ∀ (s : Shared) (H : Hp) (C : Addr) (cl : List (Str × Addr)) (fp : List Addr), DG (X.blk s H scope (compEnvC scope cl C X.env) fp) W.io (own.map (·.2)) tg g)
    (ht : ∃ tt, (∀ (s : Shared) (H : Hp) (C : Addr) (cl : List (Str × Addr)) (fp : List Addr), PTs (X.blk s H scope (compEnvC scope cl C X.env) fp) ifs tt) ∧ LT X.K W.no tt t)
    (hk : ∀ (s : Shared) (H : Hp) (C : Addr) (cl : List (Str × Addr)) (fp : List Addr), DE (X.blk s H scope (compEnvC scope cl C X.env) fp) W.no kx ke)
    (he : ∀ (s : Shared) (H : Hp) (C : Addr) (cl : List (Str × Addr)) (fp : List Addr), DE (X.blk s H scope (compEnvC scope cl C X.env) fp) W.no vx e) (hs : ∀ x, foldedSetIterable iter X.env x = pure x := by intro _; rfl) :
    DO X W (.DictComp kx vx [⟨tg, iter, ifs, 0⟩] scope pos) (wDc i g t ke e (own.map (·.2))) := by
  obtain ⟨t1, p1, l1⟩ := hi.ex
  obtain ⟨tt, p2, l2⟩ := ht
  exact ⟨_, pe_dc (g := tgOf X.K W.io (own.map (·.2)) g) (tk := tOfE X.K W.no ke) (tv := tOfE X.K W.no e) hc hN p1 ok (fun s H C cl fp => (hg s H C cl fp).pg) p2 (fun s H C cl fp => (hk s H C cl fp).pe) (fun s H C cl fp => (he s H C cl fp).pe) hs,
    lo_dc hio l1 (lg_of X.K W.io (own.map (·.2)) g) l2 (le_of X.K W.no ke) (le_of X.K W.no e)⟩
end
end DL

set_option Elab.async false
set_option linter.all false
set_option maxRecDepth 100000
namespace L2
open PySem PySem.Spec PyProof.Rows
/-! ## walks over a dict that is locked when it has come, and unlocked behind -/
def NF (X : Cx) (d : Addr) : Prop := ∀ o' u', X.H_0 d ≠ some (.frz o' u')
/-- locked now, or locked already -/
def lkR (X : Cx) (d : Addr) (kvs : List (Key × V)) (H : Hp) (R : Obj → Hp → Prop) : Prop :=
  (H d = some (.dK kvs) ∧ ∀ o, NF X d → R o (upd H d (.frz o (.dK kvs)))) ∨ ∃ o, H d = some (.frz o (.dK kvs)) ∧ R o H
def iKeysL (X : Cx) (td : TE) : TI := fun σ H R => td σ H fun x H1 => ∃ d kvs, x = .ref d ∧ lkR X d kvs H1 fun o H2 => R (Itk d o kvs) H2
def iItemsL (X : Cx) (td : TE) : TI := fun σ H R => td σ H fun x H1 => ∃ d kvs, x = .ref d ∧ lkR X d kvs H1 fun o H2 => R (Iti d o kvs) H2
def iValsL (X : Cx) (td : TE) : TI := fun σ H R => td σ H fun x H1 => ∃ d kvs, x = .ref d ∧ lkR X d kvs H1 fun o H2 => R (Itd d o kvs) H2
section
variable {X : Cx} {tg e : Expr} {td : TE} {apos cpos : Pos} {pins : List (Addr × Obj)} {σ : St} {H : Hp} {s : Shared}
theorem lk_run {d : Addr} {kvs : List (Key × V)} {R : Obj → Hp → Prop} (I : Inv X pins σ H s) (h : lkR X d kvs H R) : ∃ o H2, Inv X pins σ H2 s ∧ H2 d = some (.frz o (.dK kvs)) ∧ R o H2 := by
  rcases h with ⟨hd, q⟩ | ⟨o, hd, q⟩
  · obtain ⟨od, I2⟩ := I.lock hd trivial
    exact ⟨od, _, I2, upd_same, q od (I.nofrz hd trivial)⟩
  · exact ⟨o, H, I, hd, q⟩
theorem pi_keysL (he : PE X e td) : PI X tg e (iKeysL X td) := by
  refine ⟨fun pins s σ H R I h => ?_⟩
  refine thn (he.run pins s σ H _ I h) fun u s1 ⟨x, H1, I1, rx, d, kvs, ex, q⟩ => ?_
  subst ex
  obtain rfl : u = Value.ref d := rx
  obtain ⟨o, H2, I2, hd, q⟩ := lk_run I1 q
  obtain ⟨hs, hgd, hx, es, ep, vs, hdt, hsz, kv, hm⟩ := I2.frzK hd
  refine iter_keys hs hgd hx hdt (pi_one (tk := s1.toks) I2 _ (turn_keys _ hdt) ⟨_, Heap.get?_push_size _ rfl, rfl, ?_⟩ q)
  rw [hsz] <;> rfl
theorem pi_valuesL (he : PE X e td) (hbase : attributeBase e "values" X.env (eval e X.env) = eval e X.env := by rfl) (hline : (apos.endLine == cpos.line) = true := by rfl) : PI X tg (.Call (.Attribute e "values" apos) [] [] cpos) (iValsL X td) := by
  refine ⟨fun pins s σ H R I h => ?_⟩
  refine wpAny_Call_method (T := "dict") (id := "dict.values") hbase rfl hline F.plainAttrs_dict F.slot_dict_values F.type_dict_values (thn (he.run pins s σ H _ I h) fun u s1 ⟨x, H1, I1', rx, d, kvs, ex, q⟩ => ?_)
  subst ex
  obtain rfl : u = Value.ref d := rx
  obtain ⟨o, H2, I1, hd, q⟩ := lk_run I1' q
  obtain ⟨hs, hgd, hx, es, ep, vs, hdt, hsz, kv, hm⟩ := I1.frzK hd
  have hl : kvs.length = vs.length := Paired.length kv
  refine ⟨hm.dictOf.typeIs, hm.dictOf.mapOf.noDict, ?_⟩
  have I2 : Inv X pins σ H2 { s1 with heap := s1.heap.push { cls := .type "dict_values", data := .fields #[.ref d] } } := I1.kept (t' := s1.toks) fun b ob q => Heap.get?_push_of_some _ q
  have fin : wpAny (model X.prog X.w) X.A (pyIter (.ref s1.heap.objs.size)) (PIE X pins σ tg R) X.xe { s1 with heap := s1.heap.push { cls := .type "dict_values", data := .fields #[.ref d] } } := by
    refine wpAny_pyIter_values (d := d) (knd := mixKind X.prog X.w) ⟨_, Heap.get?_push_size _ rfl, rfl, rfl⟩ (hm.push _) (pi_one (tk := s1.toks) I2 _ (turn_vals _ hdt) ⟨_, Heap.get?_push_size _ rfl, rfl, ?_⟩ q)
    rw [hl] <;> rfl
  show wpAny _ _ (callWith cpos (.builtin "dict.values") [.ref d] [] []) _ X.xe s1
  exact method_meetsIn F.slot_dict_values F.entry_dict_values rfl (PySem.evalArgs_none ⟨rfl, hm.dictOf.typeIs, F.args_dict_values_1 _, _, meets_dict_values (mixKind X.prog X.w) d hs, ⟨vs, hm.dictOf⟩, fin⟩)
theorem pi_itemsL {elts : List Expr} {kk : Nat} {tpos : Pos} (he : PE X e td) (hbase : attributeBase e "items" X.env (eval e X.env) = eval e X.env := by rfl) (hline : (apos.endLine == cpos.line) = true := by rfl) :
    PI X (.Tuple elts kk tpos) (.Call (.Attribute e "items" apos) [] [] cpos) (iItemsL X td) := by
  refine ⟨fun pins s σ H R I h => ?_⟩
  refine wpAny_Call_method (T := "dict") (id := "dict.items") hbase rfl hline F.plainAttrs_dict F.slot_dict_items F.type_dict_items (thn (he.run pins s σ H _ I h) fun u s1 ⟨x, H1, I1', rx, d, kvs, ex, q⟩ => ?_)
  subst ex
  obtain rfl : u = Value.ref d := rx
  obtain ⟨o, H2, I1, hd, q⟩ := lk_run I1' q
  obtain ⟨hs, hgd, hx, es, ep, vs, hdt, hsz, kv, hm⟩ := I1.frzK hd
  have hl : kvs.length = vs.length := Paired.length kv
  refine ⟨hm.dictOf.typeIs, hm.dictOf.mapOf.noDict, ?_⟩
  have I2 : Inv X pins σ H2 { s1 with heap := s1.heap.push { cls := .type "dict_items", data := .fields #[.ref d] } } := I1.kept (t' := s1.toks) fun b ob q => Heap.get?_push_of_some _ q
  have fin : wpAny (model X.prog X.w) X.A (pyIter (.ref s1.heap.objs.size)) (PIE X pins σ (.Tuple elts kk tpos) R) X.xe { s1 with heap := s1.heap.push { cls := .type "dict_items", data := .fields #[.ref d] } } := by
    refine wpAny_pyIter_items (d := d) (knd := mixKind X.prog X.w) ⟨_, Heap.get?_push_size _ rfl, rfl, rfl⟩ (hm.push _) (pi_one (tk := s1.toks) I2 _ (turn_items _ hdt) ⟨.none, .none, ?_⟩ q)
    rw [hl]
    exact Heap.get?_push_size _ rfl
  show wpAny _ _ (callWith cpos (.builtin "dict.items") [.ref d] [] []) _ X.xe s1
  exact method_meetsIn F.slot_dict_items F.entry_dict_items rfl (PySem.evalArgs_none ⟨rfl, hm.dictOf.typeIs, F.args_dict_items_1 _, _, meets_dict_items (mixKind X.prog X.w) d hs, ⟨vs, hm.dictOf⟩, fin⟩)
/-- behind: unlocked, or as it is -/
def unR (X : Cx) (H : Hp) (Q : Hp → Prop) : Prop := Q H ∨ ∃ d od kvs, H d = some (.frz od (.dK kvs)) ∧ NF X d ∧ Q (upd H d (.dK kvs))
theorem un_run {Q : Hp → Prop} (I : Inv X pins σ H s) (h : unR X H Q) : ∃ H', Inv X pins σ H' s ∧ Q H' := by
  rcases h with h | ⟨d, od, kvs, hd, nf, q⟩
  · exact ⟨H, I, h⟩
  · exact ⟨_, I.unlock hd nf, q⟩
def tUnl (X : Cx) (t : TE) : TE := fun σ H Q => t σ H fun v H' => unR X H' (Q v)
def tUnlS (X : Cx) (t : TS) : TS := fun D σ H => t ⟨fun σ' H' => unR X H' (D.nx σ'), fun v H' => unR X H' (D.rt v), fun σ' H' => unR X H' (D.bk σ'), fun σ' H' => unR X H' (D.ct σ')⟩ σ H
theorem pe_unl {e : Expr} {t : TE} (h : PE X e t) : PE X e (tUnl X t) := by
  refine ⟨fun pins s σ H Q I hw => thn (h.run pins s σ _ _ I hw) fun v s1 ⟨x, H1, I2, r, q⟩ => ?_⟩
  obtain ⟨H2, I3, q⟩ := un_run I2 q
  exact ⟨x, H2, I3, r, q⟩
theorem ps_unl {st : Stmt} {t : TS} (h : PS X st t) : PS X st (tUnlS X t) := by
  refine ⟨fun pins s σ H D I hw => thn (h.run pins s σ H _ I hw) fun f s1 q => ?_⟩
  cases f with
  | next => obtain ⟨σ', H', I2, q⟩ := q; obtain ⟨H2, I3, q⟩ := un_run I2 q; exact ⟨σ', _, I3, q⟩
  | brk => obtain ⟨σ', H', I2, q⟩ := q; obtain ⟨H2, I3, q⟩ := un_run I2 q; exact ⟨σ', _, I3, q⟩
  | cont => obtain ⟨σ', H', I2, q⟩ := q; obtain ⟨H2, I3, q⟩ := un_run I2 q; exact ⟨σ', _, I3, q⟩
  | ret v => obtain ⟨x, σ', H', I2, r, q⟩ := q; obtain ⟨H2, I3, q⟩ := un_run I2 q; exact ⟨x, σ', _, I3, r, q⟩
end
end L2
namespace DL
open PySem L2
/-! ### over data -/
theorem nf_lst (vs : List V) (o : Obj) (u' : HO) : HO.lst vs ≠ .frz o u' := fun z => nomatch z
theorem nf_tup (vs : List V) (o : Obj) (u' : HO) : HO.tup vs ≠ .frz o u' := fun z => nomatch z
theorem nf_dK (vs : List (Key × V)) (o : Obj) (u' : HO) : HO.dK vs ≠ .frz o u' := fun z => nomatch z
theorem rep_rd {K : PySem.W.Frag} {H H' : Hp} (hR : ∀ a u, (∀ o u', u ≠ .frz o u') → Rd H a u → Rd H' a u) (hI : ∀ a C dx fs, H a = some (.ins C dx fs) → H' a = some (.ins C dx fs)) (hX : ∀ a fs, H a = some (.xd fs) → H' a = some (.xd fs)) {v : V} {d : D} (h : Rep K H v d) : Rep K H' v d :=
  Rep.rec (motive_1 := fun v d _ => Rep K H' v d) (motive_2 := fun vs ds _ => Reps K H' vs ds)
    .non .bl .int .str .raw (fun r _ ih => .lst (hR _ _ (nf_lst _) r) ih) (fun r _ ih => .tup (r.elim (fun z => .inl (hR _ _ (nf_tup _) z)) .inr) ih) (fun r _ ih => .dic (hR _ _ (nf_dK _) r) ih) (fun r _ ih => .obj (hI _ _ _ _ r) ih) (fun r _ ih => .kls r ih) .excN (fun r _ ih => .exc (hX _ _ r) ih) .nil (fun _ _ a b => .cons a b) h
theorem reps_rd {K : PySem.W.Frag} {H H' : Hp} (hR : ∀ a u, (∀ o u', u ≠ .frz o u') → Rd H a u → Rd H' a u) (hI : ∀ a C dx fs, H a = some (.ins C dx fs) → H' a = some (.ins C dx fs)) (hX : ∀ a fs, H a = some (.xd fs) → H' a = some (.xd fs)) : ∀ {vs : List V} {ds : List D}, Reps K H vs ds → Reps K H' vs ds
  | [], _, h => by cases h; exact .nil
  | v :: vs, _, h => by cases h with | cons a b => exact .cons (rep_rd hR hI hX a) (reps_rd hR hI hX b)
section
variable {K : PySem.W.Frag} {fm : Fm} {H : Hp} {σ : St} {ρ : Env} {d : Addr} {od : Obj} {kvs : List (Key × V)}
abbrev Fm.lk (fm : Fm) (d : Addr) : Fm := ⟨hide [d] fm.G, fm.E, fm.F⟩
/-- one heap where d stands free, one where it is locked; the same else -/
structure Lk (A : List Addr) (d : Addr) (od : Obj) (kvs : List (Key × V)) (H Hl : Hp) : Prop where
  n : d ∉ A
  h : H d = some (.dK kvs)
  l : Hl d = some (.frz od (.dK kvs))
  e : ∀ b, b ≠ d → Hl b = H b
theorem Lk.upd {A : List Addr} (n : d ∉ A) (h : H d = some (.dK kvs)) : Lk A d od kvs H (upd H d (.frz od (.dK kvs))) := ⟨n, h, upd_same, fun b nb => upd_ne nb⟩
theorem Lk.un {A : List Addr} (n : d ∉ A) (h : H d = some (.frz od (.dK kvs))) : Lk A d od kvs (L2.upd H d (.dK kvs)) H := ⟨n, upd_same, h, fun b nb => (upd_ne nb).symm⟩
theorem Lk.hid {A : List Addr} {Hl : Hp} (k : Lk A d od kvs H Hl) : Lk [] d od kvs (hide A H) (hide A Hl) := ⟨(fun z => nomatch z), (hide_out k.n).trans k.h, (hide_out k.n).trans k.l, fun b nb => by
  unfold hide; rw [k.e b nb]⟩
theorem Lk.rdl {A : List Addr} {Hl : Hp} (k : Lk A d od kvs H Hl) : ∀ a u, (∀ o u', u ≠ .frz o u') → Rd H a u → Rd Hl a u := fun a u nf h => by
  by_cases e : a = d
  · subst e
    rcases h with h | ⟨o, h⟩
    · rw [k.h] at h; cases h; exact .inr ⟨od, k.l⟩
    · rw [k.h] at h; cases h
  · rcases h with h | ⟨o, h⟩
    · exact .inl ((k.e a e).trans h)
    · exact .inr ⟨o, (k.e a e).trans h⟩
theorem Lk.rdu {A : List Addr} {Hl : Hp} (k : Lk A d od kvs H Hl) : ∀ a u, (∀ o u', u ≠ .frz o u') → Rd Hl a u → Rd H a u := fun a u nf h => by
  by_cases e : a = d
  · subst e
    rcases h with h | ⟨o, h⟩
    · rw [k.l] at h; cases h; exact absurd rfl (nf _ _)
    · rw [k.l] at h; cases h; exact .inl k.h
  · rcases h with h | ⟨o, h⟩
    · exact .inl ((k.e a e).symm.trans h)
    · exact .inr ⟨o, (k.e a e).symm.trans h⟩
theorem Lk.up {A : List Addr} {Hl : Hp} (k : Lk A d od kvs H Hl) {b : Addr} {o : HO} (h : H b = some o) (n : ∀ l, o ≠ .dK l) : Hl b = some o := by
  by_cases e : b = d
  · subst e; rw [k.h] at h; cases h; exact absurd rfl (n _)
  · exact (k.e b e).trans h
theorem Lk.dn {A : List Addr} {Hl : Hp} (k : Lk A d od kvs H Hl) {b : Addr} {o : HO} (h : Hl b = some o) (n : ∀ o' l, o ≠ .frz o' l) : H b = some o := by
  by_cases e : b = d
  · subst e; rw [k.l] at h; cases h; exact absurd rfl (n _ _)
  · exact (k.e b e).symm.trans h
theorem Lk.rep {A : List Addr} {Hl : Hp} (k : Lk A d od kvs H Hl) {v : V} {x : D} (r : Rep K H v x) : Rep K Hl v x := rep_rd k.rdl (fun a C dx fs h => k.up h (fun _ z => nomatch z)) (fun a fs h => k.up h (fun _ z => nomatch z)) r
theorem Lk.repu {A : List Addr} {Hl : Hp} (k : Lk A d od kvs H Hl) {v : V} {x : D} (r : Rep K Hl v x) : Rep K H v x := rep_rd k.rdu (fun a C dx fs h => k.dn h (fun _ _ z => nomatch z)) (fun a fs h => k.dn h (fun _ _ z => nomatch z)) r
theorem Lk.reps {A : List Addr} {Hl : Hp} (k : Lk A d od kvs H Hl) {v : List V} {x : List D} (r : Reps K H v x) : Reps K Hl v x := reps_rd k.rdl (fun a C dx fs h => k.up h (fun _ z => nomatch z)) (fun a fs h => k.up h (fun _ z => nomatch z)) r
theorem Lk.repsu {A : List Addr} {Hl : Hp} (k : Lk A d od kvs H Hl) {v : List V} {x : List D} (r : Reps K Hl v x) : Reps K H v x := reps_rd k.rdu (fun a C dx fs h => k.dn h (fun _ _ z => nomatch z)) (fun a fs h => k.dn h (fun _ _ z => nomatch z)) r
theorem slotAs_own {v : Option V} {o : OD} {b : Addr} (h : b ∈ slotAs v (.own o)) : ∃ a, v = some (.ref a) ∧ b ∈ ownAs a o := by
  cases v with
  | none => exact absurd h (by simp [slotAs])
  | some v => cases v <;> first | exact ⟨_, rfl, h⟩ | exact absurd h (by simp [slotAs])
/-- what a slot holds, across the lock -/
theorem Lk.ownAt {A : List Addr} {Hm Hm' Hl : Hp} (k : Lk A d od kvs H Hl) (m : ∀ {v : List V} {x : List D}, Reps K Hm v x → Reps K Hm' v x) {a : Addr} {o : OD} (hn : ∀ b ∈ ownAs a o, b ≠ d) : OwnAt K Hm H a o ↔ OwnAt K Hm H a o := Iff.rfl
theorem own_move {Hm Hm' H1 H2 : Hp} (m : ∀ {v : List V} {x : List D}, Reps K Hm v x → Reps K Hm' v x) {a : Addr} {o : OD} (e : ∀ b ∈ ownAs a o, H2 b = H1 b) (h : OwnAt K Hm H1 a o) : OwnAt K Hm' H2 a o := by
  cases o with
  | lst ds => obtain ⟨vs, h1, h2⟩ := h; exact ⟨vs, (e a (by simp [ownAs])).trans h1, m h2⟩
  | dic ks ds => obtain ⟨vs, h1, h2, h3⟩ := h; exact ⟨vs, (e a (by simp [ownAs])).trans h1, h2, m h3⟩
  | ins C dx ns ds => obtain ⟨vs, h1, h2, h3, h4⟩ := h; exact ⟨vs, (e a (by simp [ownAs])).trans h1, h2, m h3, (e dx (by simp [ownAs])).trans h4⟩
theorem slot_move {Hm Hm' H1 H2 : Hp} (m : ∀ {v : V} {x : D}, Rep K Hm v x → Rep K Hm' v x) (ms : ∀ {v : List V} {x : List D}, Reps K Hm v x → Reps K Hm' v x) {v : Option V} {s : Sl} (e : ∀ b ∈ slotAs v s, H2 b = H1 b) (h : SlotOk K Hm H1 v s) : SlotOk K Hm' H2 v s := by
  revert h e
  cases v with
  | none => cases s <;> exact fun _ q => q
  | some v =>
    cases s with
    | no => exact fun _ q => q
    | v x => exact fun _ q => m q
    | own o =>
      cases v with
      | ref a => exact fun e q => own_move ms e q
      | _ => exact fun _ q => q
/-- locking -/
theorem RS.lock {Hl : Hp} (r : RS K fm H σ ρ) (k : Lk (fm.E ++ owned σ ρ) d od kvs H Hl) : RS K (fm.lk d) Hl σ ρ := by
  have hk : Lk [] d od kvs (fm.hid σ ρ H) ((fm.lk d).hid σ ρ Hl) := k.hid
  have nd : ∀ b, b ∈ fm.E ++ owned σ ρ → b ≠ d := fun b hb z => k.n (z ▸ hb)
  refine ⟨r.len, fun i => ?_, r.nd, fun a ha => ?_, fun b C dx fs h => ?_, fun b C dx fs h => ?_, fun c b hc h => ?_, fun b o h => ?_, r.fx⟩
  · refine slot_move (fun q => hk.rep q) (fun q => hk.reps q) (fun b hb => k.e b ?_) (r.sl i)
    by_cases hi : i < ρ.length
    · exact nd b (List.mem_append_right _ (owned_mem r.len hi hb))
    · have : σ.getD i none = none := by rw [List.getD_eq_getElem?_getD, List.getElem?_eq_none (by rw [r.len]; omega)]; rfl
      rw [this] at hb; simp [slotAs] at hb
  · obtain ⟨⟨o, h, w⟩, g⟩ := r.tr a ha
    refine ⟨⟨o, (k.e a (nd a ha)).trans h, w⟩, ?_⟩
    show hide [d] fm.G a = none
    unfold hide; split
    · rfl
    · exact g
  · have h' := k.dn h (fun _ _ z => nomatch z)
    exact k.up (r.ins b C dx fs h') (fun _ z => nomatch z)
  · exact r.cl b C dx fs (k.dn h (fun _ _ z => nomatch z))
  · obtain ⟨h1, C, fs, h2⟩ := r.co c b hc (k.dn h (fun _ _ z => nomatch z))
    exact ⟨h1, C, fs, k.up h2 (fun _ z => nomatch z)⟩
  · obtain ⟨n, h⟩ := hide_some (show hide [d] fm.G b = some o from h)
    exact (k.e b (fun z => n (by rw [z]; exact List.mem_cons_self))).trans (r.keep b o h)
/-- unlocking -/
theorem RS.unlock {Hl : Hp} (r : RS K (fm.lk d) Hl σ ρ) (hG : ∀ o, fm.G d = some o → o = .dK kvs) (hg : d ∉ fm.E ++ owned σ ρ → True) (k : Lk (fm.E ++ owned σ ρ) d od kvs H Hl) (gE : ∀ a ∈ fm.E ++ owned σ ρ, fm.G a = none) : RS K fm H σ ρ := by
  have hk : Lk [] d od kvs (fm.hid σ ρ H) ((fm.lk d).hid σ ρ Hl) := k.hid
  have nd : ∀ b, b ∈ fm.E ++ owned σ ρ → b ≠ d := fun b hb z => k.n (z ▸ hb)
  refine ⟨r.len, fun i => ?_, r.nd, fun a ha => ?_, fun b C dx fs h => ?_, fun b C dx fs h => ?_, fun c b hc h => ?_, fun b o h => ?_, r.fx⟩
  · refine slot_move (fun q => hk.repu q) (fun q => hk.repsu q) (fun b hb => (k.e b ?_).symm) (r.sl i)
    by_cases hi : i < ρ.length
    · exact nd b (List.mem_append_right _ (owned_mem r.len hi hb))
    · have : σ.getD i none = none := by rw [List.getD_eq_getElem?_getD, List.getElem?_eq_none (by rw [r.len]; omega)]; rfl
      rw [this] at hb; simp [slotAs] at hb
  · obtain ⟨⟨o, h, w⟩, g⟩ := r.tr a ha
    exact ⟨⟨o, (k.e a (nd a ha)).symm.trans h, w⟩, gE a ha⟩
  · have h' := k.up h (fun _ z => nomatch z)
    exact k.dn (r.ins b C dx fs h') (fun _ _ z => nomatch z)
  · exact r.cl b C dx fs (k.up h (fun _ z => nomatch z))
  · obtain ⟨h1, C, fs, h2⟩ := r.co c b hc (k.up h (fun _ z => nomatch z))
    exact ⟨h1, C, fs, k.dn h2 (fun _ _ z => nomatch z)⟩
  · by_cases e : b = d
    · subst e; rw [hG o h]; exact k.h
    · exact (k.e b e).symm.trans (r.keep b o ((hide_out (fun z => e (by simpa using z))).trans h))
/-- an owned object isn't locked -/
theorem RS.free {Hl : Hp} (r : RS K fm Hl σ ρ) (h : Hl d = some (.frz od (.dK kvs))) : d ∉ fm.E ++ owned σ ρ := fun z => by
  obtain ⟨⟨o, h', w⟩, _⟩ := r.tr d z
  rw [h] at h'; cases h'; exact w

/-! ### the walks -/
def itemsD : List Key → List D → List D
  | k :: ks, x :: xs => .tup [kD k, x] :: itemsD ks xs
  | _, _ => []
theorem walk_keys {Hb : Hp} (h : Hb d = some (.frz od (.dK kvs))) : WalkD K (Itk d od kvs) Hb ((kvs.map (·.1)).map kD) := fun A H m tr => by
  have hH : H d = some (.frz od (.dK kvs)) := hid_le _ _ (m _ _ h)
  refine ⟨⟨hH, by simp⟩, fun i x e => ⟨⟨hH, by have := (List.getElem?_eq_some_iff.mp e).1; simpa using this⟩, fun y H' q => ?_⟩⟩
  obtain ⟨rfl, j, v, e1, rfl⟩ := q
  rw [List.getElem?_map, List.getElem?_map, e1] at e
  cases e
  exact ⟨.refl _, kD_rep _⟩
theorem walk_vals {Hb : Hp} {xs : List DL.D} (h : Hb d = some (.frz od (.dK kvs))) (hr : Reps K Hb (kvs.map (·.2)) xs) : WalkD K (Itd d od kvs) Hb xs := fun A H m tr => by
  have hH : H d = some (.frz od (.dK kvs)) := hid_le _ _ (m _ _ h)
  have hl := hr.length
  rw [List.length_map] at hl
  refine ⟨⟨hH, by omega⟩, fun i x e => ⟨⟨hH, by have := (List.getElem?_eq_some_iff.mp e).1; omega⟩, fun y H' q => ?_⟩⟩
  obtain ⟨rfl, j, e1⟩ := q
  obtain ⟨v, e2, r⟩ := hr.get e
  rw [List.getElem?_map, e1] at e2
  cases e2
  exact ⟨.refl _, r.mono m⟩
theorem items_len {Hb : Hp} : ∀ {kvs : List (Key × V)} {xs : List DL.D}, Reps K Hb (kvs.map (·.2)) xs → (itemsD (kvs.map (·.1)) xs).length = kvs.length
  | [], xs, h => by cases h; rfl
  | p :: kvs, xs, h => by cases h with | cons a b => exact congrArg Nat.succ (items_len b)
theorem items_get {Hb : Hp} {k : Key} {v : V} : ∀ {kvs : List (Key × V)} {xs : List DL.D}, Reps K Hb (kvs.map (·.2)) xs → ∀ {i : Nat}, kvs[i]? = some (k, v) → ∃ x : DL.D, (itemsD (kvs.map (·.1)) xs)[i]? = some (DL.D.tup [kD k, x]) ∧ Rep K Hb v x
  | [], xs, h, i, e => by cases e
  | p :: kvs, xs, h, i, e => by
    cases h with
    | cons a b =>
      cases i with
      | zero => simp at e; subst e; exact ⟨_, rfl, a⟩
      | succ i => exact items_get b (by simpa using e)
theorem walk_items {Hb : Hp} {xs : List DL.D} (h : Hb d = some (.frz od (.dK kvs))) (hr : Reps K Hb (kvs.map (·.2)) xs) : WalkD K (Iti d od kvs) Hb (itemsD (kvs.map (·.1)) xs) := fun A H m tr => by
  have hH : H d = some (.frz od (.dK kvs)) := hid_le _ _ (m _ _ h)
  have hl := items_len hr
  refine ⟨⟨hH, by omega⟩, fun i x e => ⟨⟨hH, by have := (List.getElem?_eq_some_iff.mp e).1; omega⟩, fun y H' q => ?_⟩⟩
  obtain ⟨T, k, v, e1, rfl, hT, rfl⟩ := q
  obtain ⟨z, e2, r⟩ := items_get hr e1
  rw [e2] at e; cases e
  exact ⟨.one hT (fun _ _ _ z => nomatch z), rep_pair hT tr (kD_rep _) (r.mono m)⟩
/-! ### from the lock back -/
def unD (X : Cx) (D : Ends) : Ends := ⟨fun σ' H' => unR X H' (D.nx σ'), fun v H' => unR X H' (D.rt v), fun σ' H' => unR X H' (D.bk σ'), fun σ' H' => unR X H' (D.ct σ')⟩
structure Back (K : PySem.W.Frag) (X : Cx) (σ : St) (fm : Fm) (H : Hp) (fm' : Fm) (H' : Hp) (ρ : Env) : Prop where
  new : ∀ H2 ρ2 p o (Q : Hp → Prop), noInsO o → NewO K fm' σ H' ρ H2 ρ2 p o → (∀ H3, NewO K fm σ H ρ H3 ρ2 p o → Q H3) → unR X H2 Q
  ends : ∀ (W : WW) (D : Ends) (k : KS), EndsOk K W fm (fm.hid σ ρ H) D k → EndsOk K W.no fm' (fm'.hid σ ρ H') (unD X D) { k with ex := fun _ _ => False }
theorem Lk.own {A : List Addr} {Hl : Hp} {B : List Addr} (k : Lk A d od kvs H Hl) (nd : d ∉ B) {p : Addr} {o : OD} (hp : ∀ b ∈ ownAs p o, b ≠ d) (h : OwnAt K (hide B Hl) Hl p o) : OwnAt K (hide B H) H p o := by
  have hk : Lk [] d od kvs (hide B H) (hide B Hl) := Lk.hid ⟨nd, k.h, k.l, k.e⟩
  exact own_move (fun q => hk.repsu q) (fun b hb => (k.e b (hp b hb)).symm) h
theorem Back.same {X : Cx} : Back K X σ fm H fm H ρ := ⟨fun H2 ρ2 p o Q ni n h => .inl (h H2 n), fun W D k e => ⟨fun σ H ρ q r m => .inl (e.nx σ H ρ q r m), fun v σ H s ρ q r m t => .inl (e.rt v σ H s ρ q r m t), fun σ H ρ q r m => .inl (e.bk σ H ρ q r m), fun σ H ρ q r m => .inl (e.ct σ H ρ q r m), fun x σ H ρ cls dd q => q.elim⟩⟩
theorem ownAs_ins {p : Addr} {o : OD} (h : noInsO o) : ownAs p o = [p] := ownAs_eq h
theorem Back.lock {X : Cx} (r : RS K fm H σ ρ) (hd : fm.hid σ ρ H d = some (.dK kvs)) (nf : NF X d) : Back K X σ fm H (fm.lk d) (upd H d (.frz od (.dK kvs))) ρ := by
  obtain ⟨n, h⟩ := hide_some hd
  have gd : ∀ o, fm.G d = some o → o = .dK kvs := fun o e => by have := r.keep d o e; rw [h] at this; exact (Option.some.inj this).symm
  have k0 : Lk (fm.E ++ owned σ ρ) d od kvs H (upd H d (.frz od (.dK kvs))) := .upd n h
  have gfree : ∀ {a : Addr}, hide [d] fm.G a = none → a ≠ d → fm.G a = none := fun {a} e ne => by
    rw [← e]; exact (hide_out (fun z => ne (by simpa using z))).symm
  refine ⟨fun H2 ρ2 p o Q ni n2 hq => ?_, fun W D k e => ?_⟩
  · have eB : ownAs p o = [p] := ownAs_eq ni
    have hl2 : H2 d = some (.frz od (.dK kvs)) := n2.to.go.fr d _ upd_same (fun z => n (List.mem_append_right _ z))
    have nd : d ∉ fm.E ++ owned σ ρ2 := RS.free (fm := fm.lk d) n2.to.rs hl2
    have ndB : d ∉ (fm.ex (ownAs p o)).E ++ owned σ ρ2 := RS.free (fm := (fm.lk d).ex (ownAs p o)) n2.rs hl2
    have pd : ∀ b ∈ ownAs p o, b ≠ d := fun b hb z => ndB (z ▸ List.mem_append_left _ (List.mem_append_left _ hb))
    have k2 : Lk (fm.E ++ owned σ ρ2) d od kvs (upd H2 d (.dK kvs)) H2 := .un nd hl2
    have kB : Lk ((fm.ex (ownAs p o)).E ++ owned σ ρ2) d od kvs (upd H2 d (.dK kvs)) H2 := .un ndB hl2
    refine .inr ⟨d, od, kvs, hl2, nf, hq _ ⟨⟨RS.unlock n2.to.rs gd (fun _ => trivial) k2 fun a ha => gfree (n2.to.rs.tr a ha).2 (fun z => nd (z ▸ ha)), ⟨fun b u hb hn => ?_, n2.to.go.sh⟩⟩, RS.unlock (fm := fm.ex (ownAs p o)) n2.rs gd (fun _ => trivial) kB fun a ha => gfree (n2.rs.tr a ha).2 (fun z => ndB (z ▸ ha)), fun b u hb => ?_, ?_⟩⟩
    · by_cases eb : b = d
      · subst eb; rw [h] at hb; cases hb; exact upd_same
      · rw [upd_ne eb]; exact n2.to.go.fr b u ((upd_ne eb).trans hb) hn
    · by_cases eb : b = d
      · subst eb; rw [hd] at hb; cases hb; exact (hide_out ndB).trans upd_same
      · obtain ⟨m1, m2⟩ := hide_some hb
        have := n2.mo b u ((hide_out m1).trans ((upd_ne eb).trans m2))
        obtain ⟨m3, m4⟩ := hide_some this
        exact (hide_out m3).trans ((upd_ne eb).trans m4)
    · have ndC : d ∉ ownAs p o ++ (fm.E ++ owned σ ρ2) := fun z => ndB (by rw [show (fm.ex (ownAs p o)).E ++ owned σ ρ2 = ownAs p o ++ (fm.E ++ owned σ ρ2) from List.append_assoc ..]; exact z)
      exact k2.own ndC pd n2.oa
  · have base : ∀ {σ2 : St} {H2 : Hp} {ρ2 : Env}, RS K (fm.lk d) H2 σ2 ρ2 → Mo ((fm.lk d).hid σ ρ (upd H d (.frz od (.dK kvs)))) ((fm.lk d).hid σ2 ρ2 H2) → H2 d = some (.frz od (.dK kvs)) ∧ RS K fm (upd H2 d (.dK kvs)) σ2 ρ2 ∧ Mo (fm.hid σ ρ H) (fm.hid σ2 ρ2 (upd H2 d (.dK kvs))) := fun {σ2 H2 ρ2} r2 m => by
      have hl2 : H2 d = some (.frz od (.dK kvs)) := (hide_some (m d _ ((hide_out n).trans upd_same))).2
      have nd : d ∉ fm.E ++ owned σ2 ρ2 := RS.free (fm := fm.lk d) r2 hl2
      refine ⟨hl2, RS.unlock r2 gd (fun _ => trivial) (.un nd hl2) fun a ha => gfree (r2.tr a ha).2 (fun z => nd (z ▸ ha)), fun b u hb => ?_⟩
      by_cases eb : b = d
      · subst eb; rw [hd] at hb; cases hb; exact (hide_out nd).trans upd_same
      · obtain ⟨m1, m2⟩ := hide_some hb
        obtain ⟨m3, m4⟩ := hide_some (m b u ((hide_out m1).trans ((upd_ne eb).trans m2)))
        exact (hide_out m3).trans ((upd_ne eb).trans m4)
    refine ⟨fun σ2 H2 ρ2 q r2 m => ?_, fun v σ2 H2 s ρ2 q r2 m t => ?_, fun σ2 H2 ρ2 q r2 m => ?_, fun σ2 H2 ρ2 q r2 m => ?_, fun x σ H ρ cls dd q => q.elim⟩
    · obtain ⟨a, b, c⟩ := base r2 m
      exact .inr ⟨d, od, kvs, a, nf, e.nx _ _ _ q b c⟩
    · obtain ⟨a, b, c⟩ := base r2 m
      refine .inr ⟨d, od, kvs, a, nf, e.rt v _ _ s _ q b c ?_⟩
      have nd : d ∉ fm.E ++ owned σ2 ρ2 := RS.free (fm := fm.lk d) r2 a
      have k2 : Lk (fm.E ++ owned σ2 ρ2) d od kvs (upd H2 d (.dK kvs)) H2 := .un nd a
      cases s with
      | no => exact t
      | v x => exact k2.hid.repu t
      | own o =>
        obtain ⟨p, rfl, t1, t2⟩ := t
        have ndB : d ∉ (fm.ex (ownAs p o)).E ++ owned σ2 ρ2 := RS.free (fm := (fm.lk d).ex (ownAs p o)) t1 a
        have ndC : d ∉ ownAs p o ++ (fm.E ++ owned σ2 ρ2) := fun z => ndB (by rw [show (fm.ex (ownAs p o)).E ++ owned σ2 ρ2 = ownAs p o ++ (fm.E ++ owned σ2 ρ2) from List.append_assoc ..]; exact z)
        exact ⟨p, rfl, RS.unlock (fm := fm.ex (ownAs p o)) t1 gd (fun _ => trivial) (.un ndB a) fun a' ha => gfree (t1.tr a' ha).2 (fun z => ndB (z ▸ ha)), k2.own ndC (fun b hb z => ndB (z ▸ List.mem_append_left _ (List.mem_append_left _ hb))) t2⟩
    · obtain ⟨a, b, c⟩ := base r2 m
      exact .inr ⟨d, od, kvs, a, nf, e.bk _ _ _ q b c⟩
    · obtain ⟨a, b, c⟩ := base r2 m
      exact .inr ⟨d, od, kvs, a, nf, e.ct _ _ _ q b c⟩
theorem lk_intro {X : Cx} {xs : List DL.D} (r : RS K fm H σ ρ) (hv : Rd (fm.hid σ ρ H) d (.dK kvs)) (hr : Reps K (fm.hid σ ρ H) (kvs.map (·.2)) xs) {R : Obj → Hp → Prop}
    (go : ∀ (fm' : Fm) (H' : Hp) (o : Obj), RS K fm' H' σ ρ → fm'.F = fm.F → fm'.hid σ ρ H' d = some (.frz o (.dK kvs)) → Reps K (fm'.hid σ ρ H') (kvs.map (·.2)) xs → Back K X σ fm H fm' H' ρ → R o H') : lkR X d kvs H R := by
  rcases hv with hv | ⟨o, hv⟩
  · obtain ⟨n, h⟩ := hide_some hv
    refine .inl ⟨h, fun o nf => ?_⟩
    have k0 : Lk (fm.E ++ owned σ ρ) d o kvs H (upd H d (.frz o (.dK kvs))) := .upd n h
    exact go (fm.lk d) _ o (r.lock k0) rfl ((hide_out n).trans upd_same) (k0.hid.reps hr) (.lock r hv nf)
  · exact .inr ⟨o, (hide_some hv).2, go fm H o r rfl hv hr .same⟩
end
section
variable {X : Cx} {W : WW} {vs : List Nat}
/-- keys, items, values -/
def wKeys (a : WE) : WI := fun ρ Q R => a ρ (fun d ρ1 => dicD d fun ks _ => Q (ks.map kD) ρ1) R
def wItems (a : WE) : WI := fun ρ Q R => a ρ (fun d ρ1 => dicD d fun ks xs => Q (itemsD ks xs) ρ1) R
def wVals (a : WE) : WI := fun ρ Q R => a ρ (fun d ρ1 => dicD d fun _ xs => Q xs ρ1) R
/-- a walk that locks -/
def LIK (X : Cx) (W : WW) (t : TI) (w : WI) : Prop :=
  ∀ (fm : Fm) (H : Hp) (σ : St) (ρ : Env) (Q : List D → Env → Prop) (R : KR) (RI : It → Hp → Prop), RS X.K fm H σ ρ → w ρ Q R → XOk X.K W fm σ H ρ R →
    (∀ J H1 ρ1 ds fm' H', Q ds ρ1 → To X.K fm σ H ρ H1 ρ1 → RS X.K fm' H' σ ρ1 → fm'.F = fm.F → WalkD X.K J (fm'.hid σ ρ1 H') ds → Back X.K X σ fm H1 fm' H' ρ1 → RI J H') → t σ H RI
structure DIK (X : Cx) (W : WW) (tg iter : Expr) (w : WI) : Prop where
  ex : ∃ t, PI X tg iter t ∧ LIK X W t w
theorem di_keys {tg l : Expr} {a : WE} (ha : DE X W l a) : DIK X W tg l (wKeys a) := by
  obtain ⟨t, p, h⟩ := ha.ex
  refine ⟨_, pi_keysL p, fun fm H σ ρ Q R RI r q x k => h fm H σ ρ _ R _ r q x fun v H1 d ρ1 q1 g1 r1 => ?_⟩
  obtain ⟨d, kvs, xs, rfl, hrd, hr, rfl, q2⟩ := dicD_rep q1 r1
  exact ⟨d, kvs, rfl, lk_intro g1.rs hrd hr fun fm' H' o r' eF hd hr' B => k _ H1 ρ1 _ fm' H' q2 g1 r' eF (walk_keys hd) B⟩
theorem di_items {elts : List Expr} {kk : Nat} {tpos apos cpos : Pos} {l : Expr} {a : WE} (ha : DE X W l a) (hbase : attributeBase l "items" X.env (eval l X.env) = eval l X.env := by rfl) (hline : (apos.endLine == cpos.line) = true := by rfl) : DIK X W (.Tuple elts kk tpos) (.Call (.Attribute l "items" apos) [] [] cpos) (wItems a) := by
  obtain ⟨t, p, h⟩ := ha.ex
  refine ⟨_, pi_itemsL p hbase hline, fun fm H σ ρ Q R RI r q x k => h fm H σ ρ _ R _ r q x fun v H1 d ρ1 q1 g1 r1 => ?_⟩
  obtain ⟨d, kvs, xs, rfl, hrd, hr, rfl, q2⟩ := dicD_rep q1 r1
  exact ⟨d, kvs, rfl, lk_intro g1.rs hrd hr fun fm' H' o r' eF hd hr' B => k _ H1 ρ1 _ fm' H' q2 g1 r' eF (walk_items hd hr') B⟩
theorem di_vals {tg l : Expr} {apos cpos : Pos} {a : WE} (ha : DE X W l a) (hbase : attributeBase l "values" X.env (eval l X.env) = eval l X.env := by rfl) (hline : (apos.endLine == cpos.line) = true := by rfl) : DIK X W tg (.Call (.Attribute l "values" apos) [] [] cpos) (wVals a) := by
  obtain ⟨t, p, h⟩ := ha.ex
  refine ⟨_, pi_valuesL p hbase hline, fun fm H σ ρ Q R RI r q x k => h fm H σ ρ _ R _ r q x fun v H1 d ρ1 q1 g1 r1 => ?_⟩
  obtain ⟨d, kvs, xs, rfl, hrd, hr, rfl, q2⟩ := dicD_rep q1 r1
  exact ⟨d, kvs, rfl, lk_intro g1.rs hrd hr fun fm' H' o r' eF hd hr' B => k _ H1 ρ1 _ fm' H' q2 g1 r' eF (walk_vals hd hr') B⟩
/-! ### comprehensions and loops over dicts -/
theorem lo_compL {wi : TI} {tg : TG} {tt : TT} {te : TE} {i : WI} {g : WG} {t : WT} {e : WE} (hio : ∀ v ∈ vs, v ∉ W.io) (hi : LIK X W wi i) (hg : LG X.K W.io vs tg g) (ht : LT X.K W.no tt t) (he : LE X.K W.no te e) : LO X.K W (tUnl X (tLc wi tg tt te vs)) (wComp i g t e vs) := fun fm H σ ρ Q R QV r q x k =>
  hi fm H σ ρ _ R _ r q x fun J H1 ρ1 ds fm' H' q1 g1 r' eF wk B => comp_pt (Q := Q) (QV := fun v H' => unR X H' (QV v)) hio (by rw [eF]; exact x.io) hg ht he r' wk q1 fun p H2 ys ρ2 q3 n => B.new H2 ρ2 p (.lst ys) _ trivial n fun H3 n3 => k p H3 _ ρ2 q3 (NewO.of g1 n3)
theorem do_compL {elt tg iter : Expr} {ifs : List Expr} {scope : Scope} {own : List (Str × Nat)} {pos : Pos} {i : WI} {g : WG} {t : WT} {e : WE} (hc : X.calm = true) (hN : X.N.Nodup) (hi : DIK X W tg iter i) (ok : BlkOk X.N X.env.scope scope own) (hio : ∀ v ∈ own.map (·.2), v ∉ W.io)
    (hg : ∀ (s : Shared) (H : Hp) (C : Addr) (cl : List (Str × Addr)) (fp : List Addr), DG (X.blk s H scope (compEnvC scope cl C X.env) fp) W.io (own.map (·.2)) tg g)
    (ht : ∃ tt, (∀ (s : Shared) (H : Hp) (C : Addr) (cl : List (Str × Addr)) (fp : List Addr), PTs (X.blk s H scope (compEnvC scope cl C X.env) fp) ifs tt) ∧ LT X.K W.no tt t)
    (he : ∀ (s : Shared) (H : Hp) (C : Addr) (cl : List (Str × Addr)) (fp : List Addr), DE (X.blk s H scope (compEnvC scope cl C X.env) fp) W.no elt e) (hs : ∀ x, foldedSetIterable iter X.env x = pure x := by intro _; rfl) :
    DO X W (.ListComp elt [⟨tg, iter, ifs, 0⟩] scope pos) (wComp i g t e (own.map (·.2))) := by
  obtain ⟨t1, p1, l1⟩ := hi.ex
  obtain ⟨tt, p2, l2⟩ := ht
  exact ⟨_, pe_unl (pe_lc (g := tgOf X.K W.io (own.map (·.2)) g) (te := tOfE X.K W.no e) hc hN p1 ok (fun s H C cl fp => (hg s H C cl fp).pg) p2 (fun s H C cl fp => (he s H C cl fp).pe) hs), lo_compL hio l1 (lg_of X.K W.io (own.map (·.2)) g) l2 (le_of X.K W.no e)⟩
theorem lo_dcL {wi : TI} {tg : TG} {tt : TT} {tk te : TE} {i : WI} {g : WG} {t : WT} {ke e : WE} (hio : ∀ v ∈ vs, v ∉ W.io) (hi : LIK X W wi i) (hg : LG X.K W.io vs tg g) (ht : LT X.K W.no tt t) (hk : LE X.K W.no tk ke) (he : LE X.K W.no te e) : LO X.K W (tUnl X (tDc wi tg tt tk te vs)) (wDc i g t ke e vs) := fun fm H σ ρ Q R QV r q x k =>
  hi fm H σ ρ _ R _ r q x fun J H1 ρ1 ds fm' H' q1 g1 r' eF wk B => comp_ptK (Q := Q) (QV := fun v H' => unR X H' (QV v)) hio (by rw [eF]; exact x.io) hg ht hk he r' wk q1 fun p H2 ls ys ρ2 q3 n => B.new H2 ρ2 p (.dic ls ys) _ trivial n fun H3 n3 => k p H3 _ ρ2 q3 (NewO.of g1 n3)
theorem do_dcL {kx vx tg iter : Expr} {ifs : List Expr} {scope : Scope} {own : List (Str × Nat)} {pos : Pos} {i : WI} {g : WG} {t : WT} {ke e : WE} (hc : X.calm = true) (hN : X.N.Nodup) (hi : DIK X W tg iter i) (ok : BlkOk X.N X.env.scope scope own) (hio : ∀ v ∈ own.map (·.2), v ∉ W.io)
    (hg : ∀ (s : Shared) (H : Hp) (C : Addr) (cl : List (Str × Addr)) (fp : List Addr), DG (X.blk s H scope (compEnvC scope cl C X.env) fp) W.io (own.map (·.2)) tg g)
    (ht : ∃ tt, (∀ (s : Shared) (H : Hp) (C : Addr) (cl : List (Str × Addr)) (fp : List Addr), PTs (X.blk s H scope (compEnvC scope cl C X.env) fp) ifs tt) ∧ LT X.K W.no tt t)
    (hk : ∀ (s : Shared) (H : Hp) (C : Addr) (cl : List (Str × Addr)) (fp : List Addr), DE (X.blk s H scope (compEnvC scope cl C X.env) fp) W.no kx ke)
    (he : ∀ (s : Shared) (H : Hp) (C : Addr) (cl : List (Str × Addr)) (fp : List Addr), DE (X.blk s H scope (compEnvC scope cl C X.env) fp) W.no vx e) (hs : ∀ x, foldedSetIterable iter X.env x = pure x := by intro _; rfl) :
    DO X W (.DictComp kx vx [⟨tg, iter, ifs, 0⟩] scope pos) (wDc i g t ke e (own.map (·.2))) := by
  obtain ⟨t1, p1, l1⟩ := hi.ex
  obtain ⟨tt, p2, l2⟩ := ht
  exact ⟨_, pe_unl (pe_dc (g := tgOf X.K W.io (own.map (·.2)) g) (tk := tOfE X.K W.no ke) (tv := tOfE X.K W.no e) hc hN p1 ok (fun s H C cl fp => (hg s H C cl fp).pg) p2 (fun s H C cl fp => (hk s H C cl fp).pe) (fun s H C cl fp => (he s H C cl fp).pe) hs),
    lo_dcL hio l1 (lg_of X.K W.io (own.map (·.2)) g) l2 (le_of X.K W.no ke) (le_of X.K W.no e)⟩
/-- a loop over a dict; its body raises nothing -/
theorem for_pt {K : PySem.W.Frag} {fm : Fm} {H1 : Hp} {σ : St} {ρ1 : Env} {D : Ends} {k : KS} {J : It} {ds : List DL.D} {tg : TG} {tb : TS} {g : WG} {b : WS} (hg : LG K W.io vs tg g) (hb : LS K W.no tb b) (hf : ∀ p ∈ fm.F, p.1 ∈ W.io) (r1 : RS K fm H1 σ ρ1) (wk : WalkD K J (fm.hid σ ρ1 H1) ds) (q1 : forGo g b ds ρ1 k) (e : EndsOk K W.no fm (fm.hid σ ρ1 H1) D k) :
    ∃ Wd : Nat → Nat → St → Hp → Prop, (∃ m, Wd 0 m σ H1) ∧ ∀ i m σ H, Wd i m σ H →
      (J.stop i H ∧ D.nx σ H) ∨ (J.go i H ∧ ∃ N : St → Hp → Prop, (∀ σ' H', N σ' H' → ∃ m', m' < m ∧ Wd (i + 1) m' σ' H') ∧ ∀ x H', J.yld i H x H' → tg x σ H' fun σ2 H2 => tb { D with nx := N, ct := N, bk := D.nx } σ2 H2) := by
  refine ⟨fun j m σ' H' => m = ds.length - j ∧ j ≤ ds.length ∧ ∃ ρ', RS K fm H' σ' ρ' ∧ Mo (fm.hid σ ρ1 H1) (fm.hid σ' ρ' H') ∧ forGo g b (ds.drop j) ρ' k, ⟨_, rfl, Nat.zero_le _, ρ1, r1, fun _ _ h => h, q1⟩, ?_⟩
  rintro j m σ' H' ⟨rfl, hj, ρ', s', mo, q'⟩
  obtain ⟨st, tn⟩ := wk _ H' mo s'.trk
  by_cases hlt : j < ds.length
  · have hd : ds.drop j = ds[j] :: ds.drop (j + 1) := List.drop_eq_getElem_cons hlt
    rw [hd] at q'
    obtain ⟨go, yl⟩ := tn j ds[j] (List.getElem?_eq_getElem hlt)
    refine .inr ⟨go, fun σ2 H2 => ∃ ρ2, RS K fm H2 σ2 ρ2 ∧ Mo (fm.hid σ ρ1 H1) (fm.hid σ2 ρ2 H2) ∧ forGo g b (ds.drop (j + 1)) ρ2 k, fun σ2 H2 ⟨ρ2, s2, m2, q2⟩ => ⟨ds.length - (j + 1), by omega, rfl, hlt, ρ2, s2, m2, q2⟩, fun x H2 y => ?_⟩
    obtain ⟨al, rp⟩ := yl x H2 y
    have t2 := (To.refl s').alc al
    refine hg fm H2 σ' ρ' x _ _ _ t2.rs hf rp q' fun σ3 ρ3 q3 s3 m3 _ _ => hb fm H2 σ3 ρ3 _ _ s3 hf q3 ?_
    have mm : Mo (fm.hid σ ρ1 H1) (fm.hid σ3 ρ3 H2) := fun c o h => m3 c o (t2.go.sub c o (mo c o h))
    exact ⟨fun σ4 H4 ρ4 q4 s4 m4 => ⟨ρ4, s4, fun c o h => m4 c o (mm c o h), q4⟩, (e.base mm).rt, fun σ4 H4 ρ4 q4 s4 m4 => (e.base mm).nx σ4 H4 ρ4 q4 s4 m4, fun σ4 H4 ρ4 q4 s4 m4 => ⟨ρ4, s4, fun c o h => m4 c o (mm c o h), q4⟩, (e.base mm).ex⟩
  · have ej : j = ds.length := by omega
    subst ej
    rw [List.drop_length] at q'
    exact .inl ⟨st, e.nx σ' H' ρ' q' s' mo⟩
def noEx (k : KS) : KS := { k with ex := fun _ _ => False }
def sForL (i : WI) (g : WG) (b : WS) : WS := fun ρ k => i ρ (fun ds ρ1 => forGo g b ds ρ1 (noEx k)) k.ex
theorem ls_forL {wi : TI} {tg : TG} {tb : TS} {i : WI} {g : WG} {b : WS} (hi : LIK X W wi i) (hg : LG X.K W.io vs tg g) (hb : LS X.K W.no tb b) : LS X.K W (tUnlS X (tFor wi tg tb)) (sForL i g b) := fun fm H σ ρ k D r hf q e =>
  hi fm H σ ρ _ k.ex _ r q (e.xok hf) fun J H1 ρ1 ds fm' H' q1 g1 r' eF wk B =>
    for_pt hg hb (by rw [eF]; exact hf) r' wk q1 (B.ends W D k (e.base g1.go.sub))
theorem ds_forL {tg iter : Expr} {body : List Stmt} {pos : Pos} {i : WI} {g : WG} {b : WS} (hp : PassesOwn (model X.prog X.w) X.A X.env X.xe) (hc : X.calm = true) (hi : DIK X W tg iter i) (hg : DG X W.io vs tg g) (hb : DB X W.no body b) (hs : ∀ x, foldedSetIterable iter X.env x = pure x := by intro _; rfl) :
    DS X W (.For tg iter body [] pos) (sForL i g b) := by
  obtain ⟨t1, p1, l1⟩ := hi.ex; obtain ⟨t2, p2, l2⟩ := hg.ex; obtain ⟨t3, p3, l3⟩ := hb.ex
  exact ⟨_, ps_unl (ps_for hp hc p1 p2 p3 hs), ls_forL l1 l2 l3⟩
end
end DL

set_option Elab.async false
set_option linter.all false
set_option maxRecDepth 100000
namespace PySem.SeqAt
open AutoSeq1 (wpAny_loadPart')
open MeetsSeq MeetsSeq2 MeetsSeq3 SeqRoads2
section
variable {prog : Program} {w : World}
/-- t != u: the items' answers are of this program and world -/
theorem dl_neT (l b : Addr) (xs ys : Array Value) (n m : Nat) (dx dy : Option Addr) (sx sy : Array (Option Value)) (e : Nat → Bool) :
    MeetsIn prog w (Builtin.«tuple.__ne__» ⟨[.ref l, .ref b], []⟩)
      (fun A R s => (s.heap.get? l = some { cls := .type "tuple", dict := dx, data := .seq xs n, slots := sx } ∧ s.heap.get? b = some { cls := .type "tuple", dict := dy, data := .seq ys m, slots := sy }) ∧
        (∀ j (h1 : j < xs.size) (h2 : j < ys.size), EqIn prog w A.in1 s xs[j] ys[j] (e j)) ∧
        R (.ok (.ret (.bool (!((List.range (min xs.size ys.size)).all e && xs.size == ys.size))))) s) :=
  .of_wp fun A R s h => by
    obtain ⟨hp, g, d, tk, os⟩ := s
    obtain ⟨⟨hl, hb⟩, he, h⟩ := h
    have f2 := AutoSeq1.sub_tuple_tuple
    have zl : (xs.toList.zip ys.toList).length = min xs.size ys.size := by simp
    wp_walk using wpAny_loadPart' hl, wpAny_loadPart' hb, wpAny_forIn_list _ (fun rest b s' => b.1 = none ∧ s' = ⟨hp, g, d, tk, os⟩ ∧ ∃ i, rest = (xs.toList.zip ys.toList).drop i ∧
      R (.ok (.ret (.bool (!(((List.range (min xs.size ys.size)).drop i).all e && xs.size == ys.size))))) ⟨hp, g, d, tk, os⟩) _
    case turn =>
      rintro ⟨y, x⟩ rest b s' ⟨hb', rfl, i, hz, hR⟩
      have il : i < (xs.toList.zip ys.toList).length := by
        by_cases z : i < (xs.toList.zip ys.toList).length
        · exact z
        · rw [List.drop_of_length_le (Nat.le_of_not_lt z)] at hz; cases hz
      have im : i < min xs.size ys.size := zl ▸ il
      have h1 : i < xs.size := by omega
      have h2 : i < ys.size := by omega
      rw [List.drop_eq_getElem_cons il] at hz
      injection hz with ep er
      obtain rfl : y = xs[i] := by have := congrArg Prod.fst ep; simpa using this
      obtain rfl : x = ys[i] := by have := congrArg Prod.snd ep; simpa using this
      have rd : (List.range (min xs.size ys.size)).drop i = i :: (List.range (min xs.size ys.size)).drop (i + 1) := by simp [List.drop_eq_getElem_cons, im]
      rw [rd, List.all_cons] at hR
      refine wpAny_bind (he i h1 h2 _ _ ?_)
      cases q : e i <;> rw [q] at hR <;> wp_walk
      · exact ⟨_, rfl, by simpa using hR⟩
      · exact ⟨rfl, rfl, i + 1, er, by simpa using hR⟩
    case fin =>
      rintro ⟨b1, b2⟩ s' ⟨hb', rfl, i, hz, hR⟩
      have e1 : b1 = none := hb'
      subst e1
      have ge : min xs.size ys.size ≤ i := by
        by_cases z : i < (xs.toList.zip ys.toList).length
        · rw [List.drop_eq_getElem_cons z] at hz; cases hz
        · omega
      rw [List.drop_of_length_le (by simpa using ge)] at hR
      wp_walk
      exact ⟨_, rfl, by simpa [Builtin.Tuple.tupleCompareSizes, bne] using hR⟩
    case h => exact ⟨rfl, rfl, 0, rfl, by simpa using h⟩
theorem dl_rcNeT {A : Around} {s : Shared} {E Q : Value → Shared → Prop} {l b : Addr} {xs ys : Array Value} {e : Nat → Bool} (hl : s.heap.IsTuple l xs) (hb : s.heap.IsTuple b ys) (hu : A.units < cLine)
    (he : ∀ j (h1 : j < xs.size) (h2 : j < ys.size), EqIn prog w A.in1 s xs[j] ys[j] (e j)) (h : Q (.bool (!((List.range (min xs.size ys.size)).all e && xs.size == ys.size))) s) :
    wpAny (model prog w) A (richCompare .NotEq (.ref l) (.ref b)) Q E s := by
  obtain ⟨⟨cx, dx, ax, sx⟩, ho, hc, n, hd⟩ := id hl
  obtain ⟨⟨cy, dy, ay, sy⟩, ho2, hc2, m, hd2⟩ := id hb
  simp only at hc hd hc2 hd2
  subst hc hd hc2 hd2
  exact wpAny_richCompare_same_room (T := "tuple") (op := .NotEq) ⟨_, ho, rfl⟩ ⟨_, ho2, rfl⟩ F.slot_tuple_ne (call_meetsIn F.slot_tuple_ne ⟨_, ho, rfl⟩ F.entry_tuple_ne (F.args_tuple_ne_2 _ _) (dl_neT l b xs ys n m dx dy sx sy e)
    ⟨⟨ho, ho2⟩, he, (fun x => nomatch x), h⟩) hu
end
end PySem.SeqAt
namespace DL
open PySem L2
/-! ## equality of dicts, and of tuples with dicts in them -/
def hitsB (ls : List Key) (ys : List D) : List Key → List D → Bool
  | k :: ks, x :: xs => (match getX ls ys k with | none => false | some y => D.eqv x y) && hitsB ls ys ks xs
  | _, _ => true
def dicEqv (ks : List Key) (xs : List D) (ls : List Key) (ys : List D) : Bool := ks.length == ls.length && hitsB ls ys ks xs
section
variable {X : Cx} {pins : List (Addr × Obj)} {σ : St} {H : Hp} {s : Shared}
/-- two things that are as they are read -/
theorem eqIn_of (I : Inv X pins σ H s) {A : Around} (hu : A.in1.units + 64 < cLine) {Hm : Hp} (m : Mo Hm H) {x y : V} {v u : Value} {d e : D} (rx : Rep X.K Hm x d) (ry : Rep X.K Hm y e) (hx : RelV x v) (hy : RelV y u) (ox : EqOk d) (oy : EqOk e) : SeqAt.EqIn X.prog X.w A.in1 s v u (D.eqv d e) := by
  obtain ⟨as, r1⟩ := Dp.reads I d.pd x v (rep_dp m rx (SeqAt.canLay_of_shaped ox)) hx
  obtain ⟨bs, r2⟩ := Dp.reads I e.pd y u (rep_dp m ry (SeqAt.canLay_of_shaped oy)) hy
  exact (PySem.W.keq_at r1 r2 ox oy hu).inModel _ _
theorem hits_of (I : Inv X pins σ H s) {A : Around} (hu : A.in1.units + 64 < cLine) {Hm : Hp} (m : Mo Hm H) {kb : List (Key × V)} {vb : List (Key × Value)} {ys : List D} (rb : KV kb vb) (hb : Reps X.K Hm (kb.map (·.2)) ys) (ob : ∀ y ∈ ys, EqOk y) :
    ∀ {ka : List (Key × V)} {va : List (Key × Value)} {xs : List D}, KV ka va → Reps X.K Hm (ka.map (·.2)) xs → (∀ x ∈ xs, EqOk x) → PySem.W.KeqHitsIn X.prog X.w A.in1 s vb va (hitsB (kb.map (·.1)) ys (ka.map (·.1)) xs)
  | [], va, xs, ra, ha, oa => by cases ra; exact .nil
  | (k, x0) :: ka, va, xs, ra, ha, oa => by
    cases ha with
    | @cons v vs d ds h1 h2 =>
      unfold KV at ra
      cases ra with
      | @cons p q ps qs h t =>
        obtain ⟨key, vv⟩ := q
        obtain ⟨e1, e2⟩ := h
        have e1' : k = key := e1
        subst e1'
        have ih := hits_of I hu m rb hb ob (ka := ka) (va := qs) (xs := ds) t h2 fun x hx => oa x (List.mem_cons_of_mem _ hx)
        have rr := rb.val k
        simp only [List.map_cons, hitsB]
        cases g : getX (kb.map (·.1)) ys k with
        | none =>
          rw [getX_none hb g] at rr
          have : valueAt vb k = none := by
            cases z : valueAt vb k with
            | none => rfl
            | some _ => rw [z] at rr; cases rr
          exact .miss this
        | some y =>
          obtain ⟨w, hw, rw'⟩ := getX_some hb g
          rw [hw] at rr
          obtain ⟨wv, hwv, rwv⟩ := rr.some_of
          refine .hit hwv (eqIn_of I hu m h1 rw' e2 rwv (oa d List.mem_cons_self) (ob y ?_)) ih
          have : ∀ {ks : List Key} {zs : List D} {z : D}, getX ks zs k = some z → z ∈ zs := by
            intro ks
            induction ks with
            | nil => intro zs z h; cases zs <;> cases h
            | cons k' ks ih =>
              intro zs z h
              cases zs with
              | nil => cases h
              | cons z' zs =>
                simp only [getX] at h
                split at h
                · cases h; exact List.mem_cons_self
                · exact List.mem_cons_of_mem _ (ih h)
          exact this g
/-- two dicts at their addresses -/
structure At (K : PySem.W.Frag) (Hm : Hp) (v : V) (ks : List Key) (xs : List D) : Prop where
  ex : ∃ a kvs, v = .ref a ∧ Rd Hm a (.dK kvs) ∧ kvs.map (·.1) = ks ∧ Reps K Hm (kvs.map (·.2)) xs
end
section
variable {X : Cx} {W : WW} {K : PySem.W.Frag}
def rEqK (K : PySem.W.Frag) (neg : Bool) : R2 := fun x y H Q => ∃ Hm ks xs ls ys, Mo Hm H ∧ Rep K Hm x (.dic ks xs) ∧ Rep K Hm y (.dic ls ys) ∧ (∀ x ∈ xs, EqOk x) ∧ (∀ y ∈ ys, EqOk y) ∧ Q (.bl (if neg then !dicEqv ks xs ls ys else dicEqv ks xs ls ys)) H
theorem kv_len {kvs : List (Key × V)} {vs : List (Key × Value)} (h : KV kvs vs) : kvs.length = vs.length := h.length
theorem op_eqK (hu : X.A.units + 70 < cLine) : OpR X (compareOp .Eq) (rEqK X.K false) := by
  intro pins s σ H x y v u Q I rx ry h
  obtain ⟨Hm, ks, xs, ls, ys, m, r1, r2, o1, o2, q⟩ := h
  obtain ⟨a, kvs, rfl, h1, rfl, e1⟩ := r1.dic_inv
  obtain ⟨b, lvs, rfl, h2, rfl, e2⟩ := r2.dic_inv
  cases (show v = Value.ref a from rx)
  cases (show u = Value.ref b from ry)
  obtain ⟨_, ya, va, ra, da⟩ := dk_rd I.hok (rd_mono m h1)
  obtain ⟨_, yb, vb, rb, db⟩ := dk_rd I.hok (rd_mono m h2)
  refine PySem.W.keq_eqIn (knd := mixKind X.prog X.w) ya yb da db (by omega) (fun _ => hits_of I (A := X.A) (by show X.A.units + 1 + 64 < cLine; omega) m rb e2 o2 ra e1 o1) ⟨.bl _, H, I, rfl, ?_⟩
  have : (va.length == vb.length && hitsB (lvs.map (·.1)) ys (kvs.map (·.1)) xs) = dicEqv (kvs.map (·.1)) xs (lvs.map (·.1)) ys := by
    unfold dicEqv; rw [List.length_map, List.length_map, kv_len ra, kv_len rb]
  rw [this]; exact q
theorem op_neK (hu : X.A.units + 70 < cLine) : OpR X (compareOp .NotEq) (rEqK X.K true) := by
  intro pins s σ H x y v u Q I rx ry h
  obtain ⟨Hm, ks, xs, ls, ys, m, r1, r2, o1, o2, q⟩ := h
  obtain ⟨a, kvs, rfl, h1, rfl, e1⟩ := r1.dic_inv
  obtain ⟨b, lvs, rfl, h2, rfl, e2⟩ := r2.dic_inv
  cases (show v = Value.ref a from rx)
  cases (show u = Value.ref b from ry)
  obtain ⟨_, ya, va, ra, da⟩ := dk_rd I.hok (rd_mono m h1)
  obtain ⟨_, yb, vb, rb, db⟩ := dk_rd I.hok (rd_mono m h2)
  have fin : Q (.bl (!(va.length == vb.length && hitsB (lvs.map (·.1)) ys (kvs.map (·.1)) xs))) H := by
    have : (va.length == vb.length && hitsB (lvs.map (·.1)) ys (kvs.map (·.1)) xs) = dicEqv (kvs.map (·.1)) xs (lvs.map (·.1)) ys := by
      unfold dicEqv; rw [List.length_map, List.length_map, kv_len ra, kv_len rb]
    rw [this]; exact q
  have hits := hits_of I (A := X.A) (by show X.A.units + 1 + 64 < cLine; omega) m rb e2 o2 ra e1 o1
  refine PySem.wpAny_richCompare_same_room (op := .NotEq) da.typeIs db.typeIs PySem.F.slot_dict_ne (wpAny_call_entry PySem.F.slot_dict_ne da.typeIs PySem.F.entry_dict_ne ?_ (PySem.F.args_dict_ne_2 _ _)) (by omega)
  show wpAny _ _ (Builtin.Dict.dictSlotArgs "__ne__" ⟨[.ref a, .ref b], []⟩ >>= _) _ _ s
  refine wpAny_bind ?_
  unfold Builtin.Dict.dictSlotArgs
  refine wpAny_bind (wpAny_notOrdered_dict da.typeIs ?_)
  refine wpAny_pure ?_
  refine wpAny_bind (wpAny_isInstance (T := "dict") db.typeIs PySem.F.sub_dict_dict ?_)
  simp only [Bool.not_true, Bool.false_eq_true, if_false]
  refine wpAny_bind (wpAny_pure (wpAny_bind (wpAny_pure ?_)))
  refine wpAny_bind (PySem.W.keq_samePairsIn ya yb da db (fun _ => hits) ?_)
  have eb : ∀ b : Bool, (b == false) = !b := fun b => by cases b <;> rfl
  rw [eb]
  exact wpAny_pure ⟨_, rfl, (fun z => nomatch z), .bl _, H, I, rfl, fin⟩
def eqK : O2 := fun x y k => match x, y with | .dic ks xs, .dic ls ys => (∀ x ∈ xs, EqOk x) ∧ (∀ y ∈ ys, EqOk y) ∧ k (.bl (dicEqv ks xs ls ys)) | _, _ => False
def neK : O2 := fun x y k => match x, y with | .dic ks xs, .dic ls ys => (∀ x ∈ xs, EqOk x) ∧ (∀ y ∈ ys, EqOk y) ∧ k (.bl (!dicEqv ks xs ls ys)) | _, _ => False
theorem eqK_s : OpS K (rEqK K false) eqK := fun A H x y d e k Q tr rx ry q f => by
  cases d <;> first | exact q.elim | skip
  cases e <;> first | exact q.elim | skip
  exact ⟨_, _, _, _, _, hid_le, rx, ry, q.1, q.2.1, f _ _ H q.2.2 (.refl H) (.bl _)⟩
theorem neK_s : OpS K (rEqK K true) neK := fun A H x y d e k Q tr rx ry q f => by
  cases d <;> first | exact q.elim | skip
  cases e <;> first | exact q.elim | skip
  exact ⟨_, _, _, _, _, hid_le, rx, ry, q.1, q.2.1, f _ _ H q.2.2 (.refl H) (.bl _)⟩
/-! tuples of data and dicts -/
/-- an item of each -/
def itEq (x y : D) (b : Bool) : Prop := (EqOk x ∧ EqOk y ∧ b = D.eqv x y) ∨ ∃ ks xs ls ys, x = .dic ks xs ∧ y = .dic ls ys ∧ (∀ x ∈ xs, EqOk x) ∧ (∀ y ∈ ys, EqOk y) ∧ b = dicEqv ks xs ls ys ∧ (b = true ∨ ks ≠ ls)
def itsEq : List D → List D → List Bool → Prop
  | x :: xs, y :: ys, b :: bs => itEq x y b ∧ itsEq xs ys bs
  | [], [], [] => True
  | _, _, _ => False
def rEqT (K : PySem.W.Frag) (neg : Bool) : R2 := fun x y H Q => ∃ Hm xs ys bs, Mo Hm H ∧ Rep K Hm x (.tup xs) ∧ Rep K Hm y (.tup ys) ∧ itsEq xs ys bs ∧ Q (.bl (if neg then !bs.all id else bs.all id)) H
theorem its_run {pins : List (Addr × Obj)} {σ : St} {H : Hp} {s : Shared} (I : Inv X pins σ H s) {A : Around} (hu : A.units + 70 < cLine) {Hm : Hp} (m : Mo Hm H) : ∀ {xs ys : List D} {bs : List Bool} {vs us : List V} {v' u' : List Value}, itsEq xs ys bs → Reps X.K Hm vs xs → Reps X.K Hm us ys → Vals vs v' → Vals us u' →
    v'.length = bs.length ∧ u'.length = bs.length ∧ ∀ j (h1 : j < v'.length) (h2 : j < u'.length), SeqAt.EqIn X.prog X.w A s v'[j] u'[j] (bs.getD j false)
  | [], [], [], vs, us, v', u', h, r1, r2, e1, e2 => by
    cases r1; cases r2; cases e1; cases e2
    exact ⟨rfl, rfl, fun j h => by cases h⟩
  | x :: xs, y :: ys, b :: bs, vs, us, v', u', h, r1, r2, e1, e2 => by
    cases r1 with
    | @cons v vs _ _ a1 a2 =>
      cases r2 with
      | @cons u us _ _ c1 c2 =>
        cases e1 with
        | @cons _ vv _ vvs f1 f2 =>
          cases e2 with
          | @cons _ uu _ uus g1 g2 =>
            obtain ⟨l1, l2, ih⟩ := its_run I hu m h.2 a2 c2 f2 g2
            refine ⟨congrArg Nat.succ l1, congrArg Nat.succ l2, fun j h1 h2 => ?_⟩
            cases j with
            | succ j => exact ih j (Nat.lt_of_succ_lt_succ h1) (Nat.lt_of_succ_lt_succ h2)
            | zero =>
              show SeqAt.EqIn X.prog X.w A s vv uu b
              rcases h.1 with ⟨o1, o2, rfl⟩ | ⟨ks, zs, ls, ws, rfl, rfl, o1, o2, eb, nb⟩
              · obtain ⟨as, q1⟩ := Dp.reads I x.pd v vv (rep_dp m a1 (SeqAt.canLay_of_shaped o1)) f1
                obtain ⟨ds, q2⟩ := Dp.reads I y.pd u uu (rep_dp m c1 (SeqAt.canLay_of_shaped o2)) g1
                exact (SeqAt.eqAt_reads x.pd y.pd A s vv uu as ds q1 q2 (SeqAt.canLay_of_shaped o1) (SeqAt.canLay_of_shaped o2) (SeqAt.room_of_shaped o1 (by omega))).inModel _ _
              · obtain ⟨a, kvs, rfl, hd1, rfl, i1⟩ := a1.dic_inv
                obtain ⟨c, lvs, rfl, hd2, rfl, i2⟩ := c1.dic_inv
                cases (show vv = Value.ref a from f1)
                cases (show uu = Value.ref c from g1)
                by_cases ea : a = c
                · subst ea
                  rcases nb with rfl | nb
                  · exact (SeqAt.EqAt.same _).inModel _ _
                  · have : kvs = lvs := by
                      rcases rd_mono m hd1 with z1 | ⟨o1, z1⟩ <;> rcases rd_mono m hd2 with z2 | ⟨o2, z2⟩ <;> (rw [z1] at z2; cases z2 <;> rfl)
                    rw [this] at nb; exact absurd rfl nb
                · obtain ⟨_, ya, va, ra, da⟩ := dk_rd I.hok (rd_mono m hd1)
                  obtain ⟨_, yb, vb, rb, db⟩ := dk_rd I.hok (rd_mono m hd2)
                  refine SeqAt.EqIn.of_refs ea fun E Q hq => PySem.W.keq_eqIn (knd := mixKind X.prog X.w) ya yb da db (by omega) (fun _ => hits_of I (A := A) (by show A.units + 1 + 64 < cLine; omega) m rb i2 o2 ra i1 o1) ?_
                  have : (va.length == vb.length && hitsB (lvs.map (·.1)) ws (kvs.map (·.1)) zs) = b := by
                    rw [eb]; unfold dicEqv; rw [List.length_map, List.length_map, kv_len ra, kv_len rb]
                  rw [this]; exact hq
theorem all_range (bs : List Bool) : (List.range bs.length).all (fun j => bs.getD j false) = bs.all id := by
  induction bs with
  | nil => rfl
  | cons b bs ih =>
    rw [List.length_cons, List.range_succ_eq_map, List.all_cons, List.all_map, List.all_cons, ← ih]
    rfl
theorem op_eqT {neg : Bool} {op : CmpOp} (ho : op = if neg then .NotEq else .Eq) (hu : X.A.units + 80 < cLine) : OpR X (compareOp op) (rEqT X.K neg) := by
  intro pins s σ H x y v u Q I rx ry h
  obtain ⟨Hm, xs, ys, bs, m, r1, r2, it, q⟩ := h
  obtain ⟨a, vs, rfl, h1, e1⟩ := r1.tup_inv
  obtain ⟨b, us, rfl, h2, e2⟩ := r2.tup_inv
  cases (show v = Value.ref a from rx)
  cases (show u = Value.ref b from ry)
  obtain ⟨its, k1, p1, _⟩ := I.tuple (sqT_mono m h1)
  obtain ⟨its2, k2, p2, _⟩ := I.tuple (sqT_mono m h2)
  obtain ⟨l1, l2, ev⟩ := its_run I (A := X.A.in1) (by show X.A.units + 1 + 70 < cLine; omega) m it e1 e2 k1 k2
  have ev' : ∀ j (h1 : j < its.toArray.size) (h2 : j < its2.toArray.size), SeqAt.EqIn X.prog X.w X.A.in1 s its.toArray[j] its2.toArray[j] (bs.getD j false) := fun j h1 h2 => by
    simpa using ev j (by simpa using h1) (by simpa using h2)
  have al : ((List.range (min its.toArray.size its2.toArray.size)).all (fun j => bs.getD j false) && its.toArray.size == its2.toArray.size) = bs.all id := by
    rw [List.size_toArray, List.size_toArray, l1, l2, Nat.min_self, all_range]; simp
  cases neg with
  | false =>
    subst ho
    refine SeqAt.rcIn_tuples (e := fun j => bs.getD j false) p1 p2 (by omega) ev' ?_
    rw [al]; exact ⟨.bl _, H, I, rfl, q⟩
  | true =>
    subst ho
    refine SeqAt.dl_rcNeT (e := fun j => bs.getD j false) p1 p2 (by omega) ev' ?_
    rw [al]; exact ⟨.bl _, H, I, rfl, q⟩
def eqT : O2 := fun x y k => match x, y with | .tup xs, .tup ys => ∃ bs, itsEq xs ys bs ∧ k (.bl (bs.all id)) | _, _ => False
def neT : O2 := fun x y k => match x, y with | .tup xs, .tup ys => ∃ bs, itsEq xs ys bs ∧ k (.bl (!bs.all id)) | _, _ => False
theorem eqT_s : OpS K (rEqT K false) eqT := fun A H x y d e k Q tr rx ry q f => by
  cases d <;> first | exact q.elim | skip
  cases e <;> first | exact q.elim | skip
  obtain ⟨bs, q1, q2⟩ := q
  exact ⟨_, _, _, bs, hid_le, rx, ry, q1, f _ _ H q2 (.refl H) (.bl _)⟩
theorem neT_s : OpS K (rEqT K true) neT := fun A H x y d e k Q tr rx ry q f => by
  cases d <;> first | exact q.elim | skip
  cases e <;> first | exact q.elim | skip
  obtain ⟨bs, q1, q2⟩ := q
  exact ⟨_, _, _, bs, hid_le, rx, ry, q1, f _ _ H q2 (.refl H) (.bl _)⟩
theorem u80_of {A : Around} {k : Nat} (hr : Room k A) : A.units + 80 < cLine := by have := hr.un; omega
end
end DL

set_option Elab.async false
set_option linter.all false
set_option maxRecDepth 100000
namespace DL
open PySem L2
section
variable {X : Cx} {W : WW} {K : PySem.W.Frag}
theorem u70_of {A : Around} {k : Nat} (hr : Room k A) : A.units + 70 < cLine := by have := hr.un; omega
theorem u1_of {A : Around} {k : Nat} (hr : Room k A) : A.units + 1 < cLine := by have := hr.un; omega
/-- t < u, tuples of ints -/
def ltT : O2 := fun x y k => match x, y with | .tup xs, .tup ys => ∃ ns ms : List Int, xs = ns.map .int ∧ ys = ms.map .int ∧ k (.bl (HT.lexLt ns ms)) | _, _ => False
theorem ltT_s : OpS K (rLtT K) ltT := fun A H x y d e k Q tr rx ry q f => by
  cases d <;> first | exact q.elim | skip
  cases e <;> first | exact q.elim | skip
  obtain ⟨ns, ms, rfl, rfl, q⟩ := q
  obtain ⟨a, vs, rfl, h1, e1⟩ := rx.tup_inv
  obtain ⟨b, us, rfl, h2, e2⟩ := ry.tup_inv
  cases reps_int_inv e1
  cases reps_int_inv e2
  exact ⟨a, b, ns, ms, rfl, rfl, sqT_mono hid_le h1, sqT_mono hid_le h2, f _ _ H q (.refl H) (.bl _)⟩
/-- range(i, j, -1) -/
def wRng3 (a : WA) : WI := fun ρ Q R => a ρ (fun ds ρ1 => match ds with | [.int i, .int j, .int c] => c = -1 ∧ ((-(2 ^ 62) ≤ i ∧ i < 2 ^ 62) ∧ (-(2 ^ 62) ≤ j ∧ j < 2 ^ 62)) ∧ Q (revD (i - ((i - j).toNat : Int) + 1) (i - j).toNat) ρ1 | _ => False) R
theorem di_range3 {tg e1 e2 e3 : Expr} {p pos : Pos} {a : WA} (hg : Gl X "range") (hm : X.mg "range" = none) (ha : DA X W [e1, e2, e3] a) (hs : starEach [e1, e2, e3] X.env = (false, eval e1 X.env) :: starEach [e2, e3] X.env := by rfl) (hpl : (backTo pos (starEach [e2, e3] X.env)).any (·.1) = false := by rfl) : DI X W tg (.Call (.Name "range" p) [e1, e2, e3] [] pos) (wRng3 a) := by
  obtain ⟨t, pt, l⟩ := ha.ex
  refine ⟨_, pi_range3 hg hm pt hs hpl, fun fm H σ ρ Q R RI r q x k => l fm H σ ρ _ R _ r q x fun vs H1 ds ρ1 q1 g1 r1 => ?_⟩
  match ds, q1, r1 with
  | [.int i, .int j, .int c], q1, r1 =>
    obtain ⟨rfl, ⟨⟨b1, b2⟩, b3, b4⟩, q2⟩ := q1
    cases r1 with
    | cons h1 r1 => cases r1 with
      | cons h2 r1 => cases r1 with
        | cons h3 r1 =>
          cases r1; cases h1; cases h2; cases h3
          refine ⟨i, j, -1, _, rfl, RgC.neg b1 b2 b3 b4, k _ H1 _ ρ1 q2 g1 ?_⟩
          have := walkD_itc (K := X.K) (lo := i - ((i - j).toNat : Int) + 1) (n := (i - j).toNat) (Hb := fm.hid σ ρ1 H1)
          rwa [show i - ((i - j).toNat : Int) + 1 + (((i - j).toNat : Nat) : Int) - 1 = i by omega] at this
end
/-! ### dicts of ints -/
def dkI (ps : List (Int × Int)) : List Key := ps.map fun p => .inl p.1
def dxI (ps : List (Int × Int)) : List D := ps.map fun p => .int p.2
def dicI (ps : List (Int × Int)) : D := .dic (dkI ps) (dxI ps)
def lookI (ps : List (Int × Int)) (k : Int) : Option Int := (ps.find? fun p => decide (p.1 = k)).map (·.2)
theorem lookI_pos {p : Int × Int} {r : List (Int × Int)} {k : Int} (e : p.1 = k) : lookI (p :: r) k = some p.2 := by simp [lookI, e]
theorem lookI_neg {p : Int × Int} {r : List (Int × Int)} {k : Int} (e : p.1 ≠ k) : lookI (p :: r) k = lookI r k := by simp [lookI, e]
theorem getX_I (k : Int) : ∀ ps : List (Int × Int), getX (dkI ps) (dxI ps) (.inl k) = (lookI ps k).map .int
  | [] => rfl
  | p :: ps => by
    show (if (Sum.inl p.1 : Key) = .inl k then some (D.int p.2) else getX (dkI ps) (dxI ps) (.inl k)) = _
    by_cases e : p.1 = k
    · rw [if_pos (congrArg Sum.inl e), lookI_pos e]; rfl
    · rw [if_neg (fun z => e (Sum.inl.inj z)), lookI_neg e, getX_I k ps]
theorem lookI_none {ps : List (Int × Int)} {k : Int} (h : ∀ p ∈ ps, p.1 ≠ k) : lookI ps k = none := by
  induction ps with
  | nil => rfl
  | cons p ps ih => rw [lookI_neg (h p List.mem_cons_self)]; exact ih fun q hq => h q (List.mem_cons_of_mem _ hq)
theorem lookI_mem : ∀ {ps : List (Int × Int)} {p : Int × Int}, (ps.map (·.1)).Nodup → p ∈ ps → lookI ps p.1 = some p.2
  | q :: ps, p, hn, hp => by
    rw [List.map_cons, List.nodup_cons] at hn
    rcases List.mem_cons.mp hp with rfl | hp
    · exact lookI_pos rfl
    · rw [lookI_neg (fun e => hn.1 (e ▸ List.mem_map.mpr ⟨p, hp, rfl⟩))]; exact lookI_mem hn.2 hp
theorem hasK_I (k : Int) (ps : List (Int × Int)) : hasK (dkI ps) (.inl k) = decide (∃ p ∈ ps, p.1 = k) := by
  unfold hasK dkI
  rw [List.any_map, Bool.eq_iff_iff, List.any_eq_true, decide_eq_true_iff]
  constructor
  · rintro ⟨p, hp, e⟩; exact ⟨p, hp, Sum.inl.inj (of_decide_eq_true e)⟩
  · rintro ⟨p, hp, e⟩; exact ⟨p, hp, decide_eq_true (congrArg Sum.inl e)⟩
theorem putKs_new {ps : List (Int × Int)} {k : Int} (v : Int) (h : ∀ p ∈ ps, p.1 ≠ k) : putKs (dkI ps) (.inl k) = dkI (ps ++ [(k, v)]) := by
  unfold putKs
  rw [hasK_I, if_neg (by simp only [decide_eq_true_iff]; rintro ⟨p, hp, e⟩; exact h p hp e)]
  simp [dkI]
theorem putXs_new {ps : List (Int × Int)} {k : Int} (v : Int) (h : ∀ p ∈ ps, p.1 ≠ k) : putXs (dkI ps) (dxI ps) (.inl k) (.int v) = dxI (ps ++ [(k, v)]) := by
  unfold putXs
  rw [hasK_I, if_neg (by simp only [decide_eq_true_iff]; rintro ⟨p, hp, e⟩; exact h p hp e)]
  simp [dxI]
def setI (ps : List (Int × Int)) (k v : Int) : List (Int × Int) := ps.map fun p => if p.1 = k then (p.1, v) else p
theorem repX_I (k v : Int) : ∀ ps : List (Int × Int), repX (dkI ps) (dxI ps) (.inl k) (.int v) = dxI (setI ps k v)
  | [] => rfl
  | p :: ps => by
    show (if (Sum.inl p.1 : Key) = .inl k then D.int v else .int p.2) :: repX (dkI ps) (dxI ps) (.inl k) (.int v) = _
    rw [repX_I k v ps]
    show _ = D.int (if p.1 = k then (p.1, v) else p).2 :: _
    by_cases e : p.1 = k
    · rw [if_pos (congrArg Sum.inl e), if_pos e]; rfl
    · rw [if_neg (fun z => e (Sum.inl.inj z)), if_neg e]; rfl
theorem setI_keys (ps : List (Int × Int)) (k v : Int) : (setI ps k v).map (·.1) = ps.map (·.1) := by
  unfold setI; rw [List.map_map]; apply List.map_congr_left; intro p _; simp only [Function.comp]; split <;> rfl
theorem dkI_setI (ps : List (Int × Int)) (k v : Int) : dkI (setI ps k v) = dkI ps := by
  have : ∀ ps : List (Int × Int), dkI ps = (ps.map (·.1)).map Sum.inl := fun ps => by simp [dkI, List.map_map, Function.comp_def]
  rw [this, setI_keys, ← this]
theorem putKs_old {ps : List (Int × Int)} {k : Int} (v : Int) (h : ∃ p ∈ ps, p.1 = k) : putKs (dkI ps) (.inl k) = dkI (setI ps k v) := by
  unfold putKs
  rw [hasK_I, if_pos (decide_eq_true h), dkI_setI]
theorem putXs_old {ps : List (Int × Int)} {k : Int} (v : Int) (h : ∃ p ∈ ps, p.1 = k) : putXs (dkI ps) (dxI ps) (.inl k) (.int v) = dxI (setI ps k v) := by
  unfold putXs
  rw [hasK_I, if_pos (decide_eq_true h), repX_I]
theorem eqv_int (a b : Int) : D.eqv (.int a) (.int b) = decide (a = b) := by simp [D.eqv, D.pd, PyData.eqv, Bool.beq_eq_decide_eq]
theorem hitsB_I (qs : List (Int × Int)) : ∀ ps : List (Int × Int), hitsB (dkI qs) (dxI qs) (dkI ps) (dxI ps) = ps.all fun p => decide (lookI qs p.1 = some p.2)
  | [] => rfl
  | p :: ps => by
    show ((match getX (dkI qs) (dxI qs) (.inl p.1) with | none => false | some y => D.eqv (.int p.2) y) && hitsB (dkI qs) (dxI qs) (dkI ps) (dxI ps)) = _
    rw [hitsB_I qs ps, getX_I, List.all_cons]
    congr 1
    cases lookI qs p.1 with
    | none => rfl
    | some y => show D.eqv (.int p.2) (.int y) = _; rw [eqv_int]; apply decide_eq_decide.mpr; constructor
                · rintro rfl; rfl
                · intro e; exact (Option.some.inj e).symm
theorem dicEqv_I (ps qs : List (Int × Int)) : dicEqv (dkI ps) (dxI ps) (dkI qs) (dxI qs) = (decide (ps.length = qs.length) && ps.all fun p => decide (lookI qs p.1 = some p.2)) := by
  unfold dicEqv; rw [hitsB_I]; congr 1; simp [dkI, Bool.beq_eq_decide_eq]
theorem dicEqv_self {ps : List (Int × Int)} (h : (ps.map (·.1)).Nodup) : dicEqv (dkI ps) (dxI ps) (dkI ps) (dxI ps) = true := by
  rw [dicEqv_I, Bool.and_eq_true]
  exact ⟨decide_eq_true rfl, List.all_eq_true.mpr fun p hp => decide_eq_true (lookI_mem h hp)⟩
theorem dxI_ok (ps : List (Int × Int)) : ∀ x ∈ dxI ps, EqOk x := fun x hx => by
  obtain ⟨p, _, rfl⟩ := List.mem_map.mp hx
  exact (Cmp.int _).ok
theorem dkI_len (ps : List (Int × Int)) : (dkI ps).length = ps.length := List.length_map ..
/-- a dict comprehension by an invariant -/
theorem compGoK_inv {g : WG} {t : WT} {ke e : WE} {vs : List Nat} {Q : List Key → List D → Env → Prop} (I : List D → List Key → List D → Env → Prop)
    (step : ∀ d ds ks xs ρ, I (d :: ds) ks xs ρ → ∀ P : List Key → List D → Env → Prop, (∀ ks' xs' ρ', I ds ks' xs' ρ' → P ks' xs' ρ') →
      g d ρ fun ρ1 => t ρ1 (fun b ρ2 => (b = true → ke ρ2 (fun kd ρ3 => e ρ3 (fun y ρ4 => keyD kd fun j => ks.length < LIM ∧ wipeK ρ4 vs fun ρ5 => P (putKs ks j) (putXs ks xs j y) ρ5) fun _ _ => False) fun _ _ => False) ∧ (b = false → wipeK ρ2 vs fun ρ4 => P ks xs ρ4)) fun _ _ => False)
    (fin : ∀ ks xs ρ, I [] ks xs ρ → Q ks xs ρ) : ∀ ds ks xs ρ, I ds ks xs ρ → compGoK g t ke e vs ds ks xs ρ Q
  | [], ks, xs, ρ, h => fin ks xs ρ h
  | d :: ds, ks, xs, ρ, h => step d ds ks xs ρ h _ fun ks' xs' ρ' h' => compGoK_inv I step fin ds ks' xs' ρ' h'
/-! ### comprehensions by a function of the items -/
theorem compGo_fm {α : Type} {g : WG} {t : WT} {e : WE} {vs : List Nat} {Q : List D → Env → Prop} {ρ0 : Env} (enc : α → D) (f : α → Option D) (xs : List α) (hl : xs.length ≤ LIM)
    (step : ∀ a ∈ xs, ∀ (acc : List D) (P : List D → Env → Prop), acc.length < LIM → P (acc ++ (f a).toList) ρ0 → g (enc a) ρ0 fun ρ1 => t ρ1 (fun b ρ2 => (b = true → e ρ2 (fun y ρ3 => acc.length < LIM ∧ wipeK ρ3 vs fun ρ4 => P (acc ++ [y]) ρ4) fun _ _ => False) ∧ (b = false → wipeK ρ2 vs fun ρ4 => P acc ρ4)) fun _ _ => False)
    (fin : Q (xs.filterMap f) ρ0) : compGo g t e vs (xs.map enc) [] ρ0 Q := by
  refine compGo_inv (fun ds acc ρ => ∃ j, j ≤ xs.length ∧ ds = (xs.drop j).map enc ∧ acc = (xs.take j).filterMap f ∧ ρ = ρ0) (fun d ds acc ρ hI P hP => ?_) (fun acc ρ hI => ?_) _ _ _ ⟨0, Nat.zero_le _, rfl, rfl, rfl⟩
  · obtain ⟨j, hj, e1, rfl, rfl⟩ := hI
    have hj2 : j < xs.length := by
      have := congrArg List.length e1
      simp only [List.length_cons, List.length_map, List.length_drop] at this
      omega
    rw [List.drop_eq_getElem_cons hj2, List.map_cons] at e1
    obtain ⟨rfl, rfl⟩ := List.cons.inj e1
    refine step xs[j] (List.getElem_mem hj2) _ P ?_ (hP _ _ ⟨j + 1, hj2, rfl, ?_, rfl⟩)
    · have := List.length_filterMap_le f (xs.take j)
      have h2 : (xs.take j).length ≤ j := by rw [List.length_take]; omega
      omega
    · rw [← List.take_append_getElem hj2, List.filterMap_append]
      congr 1

  · obtain ⟨j, hj, e1, rfl, rfl⟩ := hI
    have : j = xs.length := by
      have := congrArg List.length e1
      simp only [List.length_nil, List.length_map, List.length_drop] at this
      omega
    rw [this, List.take_length]; exact fin
theorem compGo_map {α : Type} {g : WG} {t : WT} {e : WE} {vs : List Nat} {Q : List D → Env → Prop} {ρ0 : Env} (enc : α → D) (f : α → D) (xs : List α) (hl : xs.length ≤ LIM)
    (step : ∀ a ∈ xs, ∀ (acc : List D) (P : List D → Env → Prop), acc.length < LIM → P (acc ++ [f a]) ρ0 → g (enc a) ρ0 fun ρ1 => t ρ1 (fun b ρ2 => (b = true → e ρ2 (fun y ρ3 => acc.length < LIM ∧ wipeK ρ3 vs fun ρ4 => P (acc ++ [y]) ρ4) fun _ _ => False) ∧ (b = false → wipeK ρ2 vs fun ρ4 => P acc ρ4)) fun _ _ => False)
    (fin : Q (xs.map f) ρ0) : compGo g t e vs (xs.map enc) [] ρ0 Q :=
  compGo_fm enc (fun a => some (f a)) xs hl step (by rw [show (fun a => some (f a)) = some ∘ f from rfl, List.filterMap_eq_map]; exact fin)
theorem enumD_map {α : Type} (enc : α → D) : ∀ (xs : List α) (i : Nat), enumD i (xs.map enc) = (xs.zipIdx i).map fun p => .tup [.int (p.2 : Int), enc p.1]
  | [], _ => rfl
  | x :: xs, i => by rw [List.map_cons, enumD, enumD_map enc xs (i + 1), List.zipIdx_cons, List.map_cons]
theorem rangeD_map : ∀ (n : Nat) (i : Nat), rangeD (i : Int) n = (List.range' i n).map fun j : Nat => D.int (j : Int)
  | 0, _ => rfl
  | n + 1, i => by
    rw [rangeD, List.range'_succ, List.map_cons]
    have := rangeD_map n (i + 1)
    rw [← this]; rfl
theorem rangeD_map0 (n : Nat) : rangeD 0 n = (List.range n).map fun j : Nat => D.int (j : Int) := by
  have := rangeD_map n 0
  rw [List.range_eq_range']; exact this
/-- a dict comprehension whose keys are ints, all unlike -/
theorem compGoK_fm {α : Type} {g : WG} {t : WT} {ke e : WE} {vs : List Nat} {Q : List Key → List D → Env → Prop} {ρ0 : Env} (enc : α → D) (f : α → Option (Int × Int)) (xs : List α) (hl : xs.length ≤ LIM) (nd : ((xs.filterMap f).map (·.1)).Nodup)
    (step : ∀ a ∈ xs, ∀ (acc : List (Int × Int)) (P : List Key → List D → Env → Prop), acc.length < LIM → P (dkI (acc ++ (f a).toList)) (dxI (acc ++ (f a).toList)) ρ0 → (∀ p, f a = some p → ∀ q ∈ acc, q.1 ≠ p.1) →
      g (enc a) ρ0 fun ρ1 => t ρ1 (fun b ρ2 => (b = true → ke ρ2 (fun kd ρ3 => e ρ3 (fun y ρ4 => keyD kd fun j => (dkI acc).length < LIM ∧ wipeK ρ4 vs fun ρ5 => P (putKs (dkI acc) j) (putXs (dkI acc) (dxI acc) j y) ρ5) fun _ _ => False) fun _ _ => False) ∧ (b = false → wipeK ρ2 vs fun ρ4 => P (dkI acc) (dxI acc) ρ4)) fun _ _ => False)
    (fin : Q (dkI (xs.filterMap f)) (dxI (xs.filterMap f)) ρ0) : compGoK g t ke e vs (xs.map enc) [] [] ρ0 Q := by
  refine compGoK_inv (fun ds ks ys ρ => ∃ j, j ≤ xs.length ∧ ds = (xs.drop j).map enc ∧ ks = dkI ((xs.take j).filterMap f) ∧ ys = dxI ((xs.take j).filterMap f) ∧ ρ = ρ0) (fun d ds ks ys ρ hI P hP => ?_) (fun ks ys ρ hI => ?_) _ _ _ _ ⟨0, Nat.zero_le _, rfl, rfl, rfl, rfl⟩
  · obtain ⟨j, hj, e1, rfl, rfl, rfl⟩ := hI
    have hj2 : j < xs.length := by
      have := congrArg List.length e1
      simp only [List.length_cons, List.length_map, List.length_drop] at this
      omega
    have e0 := e1
    rw [List.drop_eq_getElem_cons hj2, List.map_cons] at e1
    obtain ⟨rfl, rfl⟩ := List.cons.inj e1
    have et : (xs.take (j + 1)).filterMap f = (xs.take j).filterMap f ++ (f xs[j]).toList := by
      rw [← List.take_append_getElem hj2, List.filterMap_append]
      congr 1

    refine step xs[j] (List.getElem_mem hj2) _ P ?_ ?_ ?_
    · have := List.length_filterMap_le f (xs.take j)
      have h2 : (xs.take j).length ≤ j := by rw [List.length_take]; omega
      omega
    · rw [← et]; exact hP _ _ _ ⟨j + 1, hj2, rfl, rfl, rfl, rfl⟩
    · intro p hp q hq e
      have sp : xs.filterMap f = (xs.take (j + 1)).filterMap f ++ (xs.drop (j + 1)).filterMap f := by rw [← List.filterMap_append, List.take_append_drop]
      rw [sp, et, hp, List.map_append, List.map_append] at nd
      have := (List.nodup_append.mp (List.nodup_append.mp nd).1).2.2 q.1 (List.mem_map.mpr ⟨q, hq, rfl⟩) p.1 (by simp)
      exact this e
  · obtain ⟨j, hj, e1, rfl, rfl, rfl⟩ := hI
    have : j = xs.length := by
      have := congrArg List.length e1
      simp only [List.length_nil, List.length_map, List.length_drop] at this
      omega
    rw [this, List.take_length]; exact fin
/-- a loop over typed items -/
theorem forGo_fm {α : Type} {g : WG} {b : WS} {k : KS} (enc : α → D) (xs : List α) (I : Nat → Env → Prop) (step : ∀ (i : Nat) (hi : i < xs.length) (ρ : Env), I i ρ → ∀ P : Env → Prop, (∀ ρ', I (i + 1) ρ' → P ρ') → g (enc xs[i]) ρ fun ρ1 => b ρ1 { k with nx := P, ct := P, bk := k.nx })
    (fin : ∀ ρ, I xs.length ρ → k.nx ρ) {ρ0 : Env} (h0 : I 0 ρ0) : forGo g b (xs.map enc) ρ0 k := by
  refine forGo_inv (fun ds ρ => ∃ j, j ≤ xs.length ∧ ds = (xs.drop j).map enc ∧ I j ρ) (fun d ds ρ hI P hP => ?_) (fun ρ hI => ?_) _ _ ⟨0, Nat.zero_le _, rfl, h0⟩
  · obtain ⟨j, hj, e1, h⟩ := hI
    have hj2 : j < xs.length := by
      have := congrArg List.length e1
      simp only [List.length_cons, List.length_map, List.length_drop] at this
      omega
    rw [List.drop_eq_getElem_cons hj2, List.map_cons] at e1
    obtain ⟨rfl, rfl⟩ := List.cons.inj e1
    exact step j hj2 ρ h P fun ρ' h' => hP ρ' ⟨j + 1, hj2, rfl, h'⟩
  · obtain ⟨j, hj, e1, h⟩ := hI
    have : j = xs.length := by
      have := congrArg List.length e1
      simp only [List.length_nil, List.length_map, List.length_drop] at this
      omega
    exact fin ρ (this ▸ h)
/-- a def that gives a new own dict -/
def spFD {α : Type} (n : Nat) (arg : α → List D) (pre : α → Prop) (post : α → List Key → List D → Prop) : SpD := fun ins Q _ => ∃ a, ins = (arg a).map Sl.v ∧ (arg a).length = n ∧ pre a ∧ ∀ ks xs, post a ks xs → Q (.own (.dic ks xs)) (List.replicate n .no)
theorem mono_spFD {α : Type} {n : Nat} {arg : α → List D} {pre : α → Prop} {post : α → List Key → List D → Prop} : MonoSp (spFD n arg pre post) := fun ins Q Q' R R' h1 h2 ⟨a, e, l, p, k⟩ => ⟨a, e, l, p, fun ks xs h => h1 _ _ (k ks xs h)⟩
theorem len_spFD {α : Type} {n : Nat} {arg : α → List D} {pre : α → Prop} {post : α → List Key → List D → Prop} : ∀ ins Q R, spFD n arg pre post ins Q R → ins.length = n := fun ins Q R ⟨a, e, l, p, k⟩ => by subst e; rw [List.length_map]; exact l
theorem io_spFD {α : Type} {n : Nat} {arg : α → List D} {pre : α → Prop} {post : α → List Key → List D → Prop} {io : List Nat} : ∀ ins Q R, spFD n arg pre post ins Q R → ∀ j o, Env.at ins j = .own o → j ∈ io := fun ins Q R ⟨a, e, l, p, k⟩ j o h => by subst e; exact (at_vs h).elim
/-- a def of two own lists, the first one changed, the second one only read -/
def spRR (pre : List D → List D → Prop) (post : List D → List D → D → List D → Prop) : SpD := fun ins Q _ => ∃ xs zs, ins = [.own (.lst xs), .own (.lst zs)] ∧ pre xs zs ∧ ∀ d ys, post xs zs d ys → Q (.v d) [.own (.lst ys), .own (.lst zs)]
theorem mono_spRR {pre : List D → List D → Prop} {post : List D → List D → D → List D → Prop} : MonoSp (spRR pre post) := fun ins Q Q' R R' h1 h2 ⟨xs, zs, e, p, k⟩ => ⟨xs, zs, e, p, fun d ys h => h1 _ _ (k d ys h)⟩
theorem len_spRR {pre : List D → List D → Prop} {post : List D → List D → D → List D → Prop} : ∀ ins Q R, spRR pre post ins Q R → ins.length = 2 := fun ins Q R ⟨xs, zs, e, p, k⟩ => by subst e; rfl
theorem io_spRR {pre : List D → List D → Prop} {post : List D → List D → D → List D → Prop} : ∀ ins Q R, spRR pre post ins Q R → ∀ j o, Env.at ins j = .own o → j ∈ [0, 1] := fun ins Q R ⟨xs, zs, e, p, k⟩ j o h => by
  subst e
  match j, h with
  | 0, _ => simp
  | 1, _ => simp
  | j + 2, h => cases h
end DL

set_option Elab.async false
set_option linter.all false
set_option maxRecDepth 100000
set_option maxHeartbeats 0
namespace L53
open PySem L2 DL
def top (i : Nat) : Stmt := PySem.Challenge.pw_siltstore_k53_whole_tails.main.body.getD i (.Pass ⟨0, 0, 0, 0⟩)
def tys (C : Addr) : List Value := [.type "NoneType", .type "bool", .type "int", .type "str", .type "list", .type "tuple", .type "dict", .ref C]
/-- what the top has made of the built-ins' names and its own constants -/
structure Bl (K : PySem.W.Frag) (mg : Str → Option Value) (C A_Weights : Addr) : Prop where
  isc : ∀ D, Value.ref D ∈ tys C → IsC K D
  tn : Value.none ∉ tys C
  isc_Weights : ∀ D, Value.ref D ∈ tys A_Weights → IsC K D
  tn_Weights : Value.none ∉ tys A_Weights
  GREATEST : ∃ t, mg "GREATEST" = some (.int 12 t)
  HEAVIEST : ∃ t, mg "HEAVIEST" = some (.int 100 t)
  LEAST : ∃ t, mg "LEAST" = some (.int 2 t)
  MOST : ∃ t, mg "MOST" = some (.int 6 t)
  abs : mg "abs" = none
  all : mg "all" = none
  bool : mg "bool" = none
  divmod : mg "divmod" = none
  enumerate : mg "enumerate" = none
  int : mg "int" = none
  isinstance : mg "isinstance" = none
  k_Rule : ∀ t ∈ tys C, PySem.W.kitOne K t (.ref C) = some (decide (t ∈ [Value.ref C]))
  k_Weights : ∀ t ∈ tys A_Weights, PySem.W.kitOne K t (.ref A_Weights) = some (decide (t ∈ [Value.ref A_Weights]))
  k_bool : ∀ t ∈ tys C, PySem.W.kitOne K t (.type "bool") = some (decide (t ∈ [Value.type "bool"]))
  k_int : ∀ t ∈ tys C, PySem.W.kitOne K t (.type "int") = some (decide (t ∈ [Value.type "int", .type "bool"]))
  k_list_tuple : ∀ t ∈ tys C, PySem.W.kitAny K t [.type "list", .type "tuple"] = some (decide (t ∈ ([.type "list", .type "tuple"] : List Value)))
  k_tuple : ∀ t ∈ tys C, PySem.W.kitOne K t (.type "tuple") = some (decide (t ∈ [Value.type "tuple"]))
  len : mg "len" = none
  list : mg "list" = none
  max : mg "max" = none
  min : mg "min" = none
  range : mg "range" = none
  reversed : mg "reversed" = none
  sum : mg "sum" = none
  tuple : mg "tuple" = none
/-- the class Rule -/
structure RuleS (K : PySem.W.Frag) (mg : Str → Option Value) (C : Addr) : Prop where
  cl : Cls K C
  mg : mg "Rule" = some (.ref C)
  n_front : NoAttr K C "front"
  n_period : NoAttr K C "period"
/-- the class Weights -/
structure WeightsS (K : PySem.W.Frag) (mg : Str → Option Value) (C : Addr) : Prop where
  cl : Cls K C
  mg : mg "Weights" = some (.ref C)
  n_front : NoAttr K C "front"
  n_period : NoAttr K C "period"

variable {P : Program} {w : World} {K : PySem.W.Frag} {mg : Str → Option Value} {base : Heap} {C A_Weights X_SiltError X_BadDay X_BadWeights : Addr}

/-- the script: a list that was handed in, or one of the module's own -/
def scrD (b : Bool) (s : List Int) : D := match b with
  | true => .lst (s.map .int)
  | false => .kls (s.map .int)
theorem scr_ok (b : Bool) (s : List Int) : EqOk (scrD b s) := by
  cases b
  · have h := (Cmp.ints s).ok (by decide)
    exact h
  · exact (Cmp.ints s).ok (by decide)
theorem scr_eqv (b : Bool) (s : List Int) : D.eqv (scrD b s) (.lst []) = decide (s = []) := by
  have := eqv_ints s []
  cases b <;> exact this


def sp__law_number : SpD := spF 2 (fun (a : (Bool × List Int) × Int) => [scrD a.1.1 a.1.2, .int a.2]) (fun a => a.1.2.length ≤ 63 ∧ 0 ≤ a.2) (fun _ d => ∃ r : Int, d = .int r ∧ 0 ≤ r)

abbrev s__law_number : Stmt := top 47
def N__law_number : List Str := ["script", "index", "cell", "blend"]
def P__law_number : List Str := ["script", "index"]
theorem sc__law_number : FnScope N__law_number P__law_number (defScope s__law_number) := ⟨rfl, rfl, rfl, by decide +kernel, rfl, by decide +kernel, by decide +kernel⟩
theorem ok__law_number {f : Addr} {fd : FuncData} (F : Fun K "_law_number" "_law_number" s__law_number f fd) (B : Bl K mg C A_Weights) (R_Rule : RuleS K mg C) (R_Weights : WeightsS K mg A_Weights) (E_SiltError : ErrS K mg "SiltError" X_SiltError) (E_BadDay : ErrS K mg "BadDay" X_BadDay) (E_BadWeights : ErrS K mg "BadWeights" X_BadWeights)  : FnOk P w K mg base (L2.CX P w) 1 f fd P__law_number (spOf K sp__law_number) := by
  refine fn_ok F sc__law_number len_spF (io := []) io_spF (fun cdv A outer sh H E hr =>
 (db_cons (ds_if (dt_cmp (op_eqD (u64_of hr)) eq_s (de_var 0 (pv 0)) (do_lst da_nil).de (nomark _)) (db_one (ds_ret (de_callTy call_int1 int_s (by rfl) B.int (by rfl) (da_cons (de_mod (de_add (de_mul (de_var 1 (pv 1)) de_int) de_int) de_int) da_nil)))) db_nil)
 (db_cons (ds_set (i := 2) (show (_ : Nat) ∉ ([] : List Nat) by decide) sc__law_number.nd (by rfl) (.inl rfl) (de_ix (de_var 0 (pv 0)) (de_mod (de_var 1 (pv 1)) (de_callB call_len len_s (by rfl) B.len (by rfl) (da_cons (de_var 0 (pv 0)) da_nil))) (fun _ _ => rfl)))
 (db_cons (ds_if (dt_cmp op_ge (ops_I0 fun _ _ _ => .bl _) (de_callB call_abs abs_s (by rfl) B.abs (by rfl) (da_cons (de_var 2 (pv 2)) da_nil)) (de_pow de_int de_int) (nomark _)) (db_one (ds_set (i := 2) (show (_ : Nat) ∉ ([] : List Nat) by decide) sc__law_number.nd (by rfl) (.inl rfl) (de_mod (de_var 2 (pv 2)) (de_pow de_int de_int)))) db_nil)
 (db_cons (ds_set (i := 3) (show (_ : Nat) ∉ ([] : List Nat) by decide) sc__law_number.nd (by rfl) (.inl rfl) (de_mod (de_add (de_mul (de_add (de_var 2 (pv 2)) (de_mul de_int (de_var 1 (pv 1)))) de_int) (de_mul de_int (de_callB call_len len_s (by rfl) B.len (by rfl) (da_cons (de_var 0 (pv 0)) da_nil)))) de_int))
 (db_one (ds_ret (de_callTy call_int1 int_s (by rfl) B.int (by rfl) (da_cons (de_mod (de_add (de_mul (de_mod (de_mul (de_var 3 (pv 3)) de_int) de_int) de_int) (de_var 1 (pv 1))) de_int) da_nil))))))))) ?_

  rintro ins Q R ⟨⟨⟨b, xs⟩, i⟩, rfl, l, ⟨h1, h2⟩, k⟩
  dsimp only [sSeq, sIf, sSet, sSetO, sRet, sRetO, sNext, sExpr, wTest, w1, w2, wVar, valOf, Env.at, Env.put, wOD, wLst, wTup, waNil, waCons, waStar, wC, wCall, wCallB, wIf, DL.wTru, truD, wAnd, wOr, DL.wNot, wAndV, wOrV, wNotV, List.map, List.length, List.replicate, List.replicate_succ, List.replicate_zero, DL.putK, OD.toD, o2I, o2I0, addD, mulD, ixD, lenL, lenD, intL, absL, maxL, minL, divmodL, tupleL, blOf, intOf, lstD, tupD, seqOf, outOf, List.tail, Nat.reduceAdd, Nat.reduceSub, wrNil, wrV, wrO, wCallR, wCallRO, takeA, takeK, backA, isOwn, Sl.asD, Sl.asO, spK, noInsO, sAugIx, modL, wIxB, lstOf, wTruB, bor, sExtO, wRep, wSl, wSlB, wCat, wListOf, wpNone, wpSome, DL.isScal, sFor, wRng1, wRng2, gN, gTupD, gConsD, gNilD, sAsg, sPar, parK, wnNil, wnV, wnO, sRetN, ownL, wIsi, isiL, isiD, eqD, neD, wComp, sAug, wGet, isC, wFld, fldD, wMeth, insD, madeK, wrDef, wMut, sRetB, List.nil_append, List.cons_append, DL.D.ty, seqD, gFld, modI, wEnum, wRev1, sumL, allL, anyL, sFreeze, frK, wIter, wIterT, wMake, wBm, idxL, sTry, exmD, sRaise, wEqO, wChain, wDNew, sSetK, modK, dicOf, wDGetB, wDGet, dicD, wDInB, wDGet2B, sAugK, keyD, wOfK, wOfKB, fCopy, fKeys, fSorted, wSortL, wDc, wKeys, wItems, wVals, sForL, noEx, eqK, neK, eqT, neT, ltT, wRng3, kD, N__law_number] at h1 h2 k ⊢
  rw [scr_eqv]
  refine ⟨by decide, scr_ok b xs, (Cmp.ints []).ok, ?_, ?_⟩
  · intro h
    refine ⟨mulOk_r (by decide), by decide, trivial, k _ ⟨_, rfl, Int.emod_nonneg _ (by decide)⟩⟩
  · intro h
    have hx : xs ≠ [] := by simpa using h
    have hl : 0 < (xs.length : Int) := by have := List.length_pos_iff.mpr hx; omega
    obtain ⟨z, hz, _⟩ := atI_in (xs := xs) (Int.emod_nonneg i (by omega)) (Int.emod_lt_of_pos i hl)
    cases b
    all_goals
      dsimp only [sSeq, sIf, sSet, sSetO, sRet, sRetO, sNext, sExpr, wTest, w1, w2, wVar, valOf, Env.at, Env.put, wOD, wLst, wTup, waNil, waCons, waStar, wC, wCall, wCallB, wIf, DL.wTru, truD, wAnd, wOr, DL.wNot, wAndV, wOrV, wNotV, List.map, List.length, List.replicate, List.replicate_succ, List.replicate_zero, DL.putK, OD.toD, o2I, o2I0, addD, mulD, ixD, lenL, lenD, intL, absL, maxL, minL, divmodL, tupleL, blOf, intOf, lstD, tupD, seqOf, outOf, List.tail, Nat.reduceAdd, Nat.reduceSub, wrNil, wrV, wrO, wCallR, wCallRO, takeA, takeK, backA, isOwn, Sl.asD, Sl.asO, spK, noInsO, sAugIx, modL, wIxB, lstOf, wTruB, bor, sExtO, wRep, wSl, wSlB, wCat, wListOf, wpNone, wpSome, DL.isScal, sFor, wRng1, wRng2, gN, gTupD, gConsD, gNilD, sAsg, sPar, parK, wnNil, wnV, wnO, sRetN, ownL, wIsi, isiL, isiD, eqD, neD, wComp, sAug, wGet, isC, wFld, fldD, wMeth, insD, madeK, wrDef, wMut, sRetB, List.nil_append, List.cons_append, DL.D.ty, seqD, gFld, modI, wEnum, wRev1, sumL, allL, anyL, sFreeze, frK, wIter, wIterT, wMake, wBm, idxL, sTry, exmD, sRaise, wEqO, wChain, wDNew, sSetK, modK, dicOf, wDGetB, wDGet, dicD, wDInB, wDGet2B, sAugK, keyD, wOfK, wOfKB, fCopy, fKeys, fSorted, wSortL, wDc, wKeys, wItems, wVals, sForL, noEx, eqK, neK, eqT, neT, ltT, wRng3, kD, N__law_number, scrD]
      rw [List.length_map]
      refine ⟨hl, .int z, by rw [atI_map, hz]; rfl, by unfold CPow; decide, fun _ => ⟨by unfold CPow; decide, ?_⟩, fun _ => ?_⟩
      · exact ⟨by decide, mulOk_l (by decide), mulOk_r (by decide), mulOk_l (by decide), by decide, mulOk_r (by decide), by decide, mulOk_r (by decide), by decide, trivial, k _ ⟨_, rfl, Int.emod_nonneg _ (by decide)⟩⟩
      · exact ⟨mulOk_l (by decide), mulOk_r (by decide), mulOk_l (by decide), by decide, mulOk_r (by decide), by decide, mulOk_r (by decide), by decide, trivial, k _ ⟨_, rfl, Int.emod_nonneg _ (by decide)⟩⟩

theorem cal__law_number {f : Addr} {fd : FuncData} (F : Fun K "_law_number" "_law_number" s__law_number f fd) (hm : mg "_law_number" = some (.ref f)) (B : Bl K mg C A_Weights) (R_Rule : RuleS K mg C) (R_Weights : WeightsS K mg A_Weights) (E_SiltError : ErrS K mg "SiltError" X_SiltError) (E_BadDay : ErrS K mg "BadDay" X_BadDay) (E_BadWeights : ErrS K mg "BadWeights" X_BadWeights)  : Cal P w K mg base 1 "_law_number" P__law_number sp__law_number :=
  ⟨⟨f, fd, ok__law_number F B R_Rule R_Weights E_SiltError E_BadDay E_BadWeights , hm, F.kp, F.binds (ps := P__law_number) fun _ _ _ _ _ _ us hl => match us, hl with | [_, _], _ => rfl⟩, mono_spF⟩

def drawOk (d : List D) : Prop := ∃ b s c, d = [scrD b s, .int c] ∧ s.length ≤ 63 ∧ 0 ≤ c


def sp__law_take : SpD := spR 1 (fun xs ds => drawOk xs ∧ ∃ m, ds = [.int m] ∧ 0 < m) (fun xs ds d ys => drawOk ys ∧ ∃ m r, ds = [.int m] ∧ d = .int r ∧ 0 ≤ r ∧ r < m)

abbrev s__law_take : Stmt := top 48
def N__law_take : List Str := ["draw", "many"]
def P__law_take : List Str := ["draw", "many"]
theorem sc__law_take : FnScope N__law_take P__law_take (defScope s__law_take) := ⟨rfl, rfl, rfl, by decide +kernel, rfl, by decide +kernel, by decide +kernel⟩
theorem ok__law_take {f : Addr} {fd : FuncData} (F : Fun K "_law_take" "_law_take" s__law_take f fd) (B : Bl K mg C A_Weights) (R_Rule : RuleS K mg C) (R_Weights : WeightsS K mg A_Weights) (E_SiltError : ErrS K mg "SiltError" X_SiltError) (E_BadDay : ErrS K mg "BadDay" X_BadDay) (E_BadWeights : ErrS K mg "BadWeights" X_BadWeights) (C__law_number : Cal P w K mg base 1 "_law_number" P__law_number sp__law_number) : FnOk P w K mg base (L2.CX P w) 2 f fd P__law_take (spOf K sp__law_take) := by
  refine fn_ok F sc__law_take len_spR (io := [0]) io_spR (fun cdv A outer sh H E hr =>
 (db_cons (ds_augIx 0 (pv 0) de_int iop_add iadd_s de_int)
 (db_one (ds_ret (de_mod (de_callTy call_int1 int_s (by rfl) B.int (by rfl) (da_cons (de_c C__law_number (hr.mono (by decide)) (by rfl) (takes_of rfl rfl rfl rfl) (dr_v (de_ixB 0 (pv 0) de_int (fun _ _ => rfl)) (dr_v (de_callTy call_int1 int_s (by rfl) B.int (by rfl) (da_cons (de_ixB 0 (pv 0) de_int (fun _ _ => rfl)) da_nil)) dr_nil))) da_nil)) (de_var 1 (pv 1))))))) ?_

  rintro ins Q R ⟨_, _, rfl, l, ⟨⟨b, s, c, rfl, h1, h2⟩, m, rfl, h3⟩, k⟩
  dsimp only [sSeq, sIf, sSet, sSetO, sRet, sRetO, sNext, sExpr, wTest, w1, w2, wVar, valOf, Env.at, Env.put, wOD, wLst, wTup, waNil, waCons, waStar, wC, wCall, wCallB, wIf, DL.wTru, truD, wAnd, wOr, DL.wNot, wAndV, wOrV, wNotV, List.map, List.length, List.replicate, List.replicate_succ, List.replicate_zero, DL.putK, OD.toD, o2I, o2I0, addD, mulD, ixD, lenL, lenD, intL, absL, maxL, minL, divmodL, tupleL, blOf, intOf, lstD, tupD, seqOf, outOf, List.tail, Nat.reduceAdd, Nat.reduceSub, wrNil, wrV, wrO, wCallR, wCallRO, takeA, takeK, backA, isOwn, Sl.asD, Sl.asO, spK, noInsO, sAugIx, modL, wIxB, lstOf, wTruB, bor, sExtO, wRep, wSl, wSlB, wCat, wListOf, wpNone, wpSome, DL.isScal, sFor, wRng1, wRng2, gN, gTupD, gConsD, gNilD, sAsg, sPar, parK, wnNil, wnV, wnO, sRetN, ownL, wIsi, isiL, isiD, eqD, neD, wComp, sAug, wGet, isC, wFld, fldD, wMeth, insD, madeK, wrDef, wMut, sRetB, List.nil_append, List.cons_append, DL.D.ty, seqD, gFld, modI, wEnum, wRev1, sumL, allL, anyL, sFreeze, frK, wIter, wIterT, wMake, wBm, idxL, sTry, exmD, sRaise, wEqO, wChain, wDNew, sSetK, modK, dicOf, wDGetB, wDGet, dicD, wDInB, wDGet2B, sAugK, keyD, wOfK, wOfKB, fCopy, fKeys, fSorted, wSortL, wDc, wKeys, wItems, wVals, sForL, noEx, eqK, neK, eqT, neT, ltT, wRng3, kD, N__law_take]
  refine ⟨trivial, _, by decide, rfl, rfl, trivial, _, rfl, trivial, _, rfl, ?_⟩
  refine ⟨((b, s), c + 1), rfl, rfl, ⟨h1, by dsimp only; omega⟩, fun d hd => ?_⟩
  obtain ⟨r, rfl, hr⟩ := hd
  exact ⟨h3, trivial, k _ _ ⟨⟨b, s, c + 1, rfl, h1, by omega⟩, m, _, rfl, rfl, Int.emod_nonneg _ (by omega), Int.emod_lt_of_pos _ h3⟩⟩

theorem cal__law_take {f : Addr} {fd : FuncData} (F : Fun K "_law_take" "_law_take" s__law_take f fd) (hm : mg "_law_take" = some (.ref f)) (B : Bl K mg C A_Weights) (R_Rule : RuleS K mg C) (R_Weights : WeightsS K mg A_Weights) (E_SiltError : ErrS K mg "SiltError" X_SiltError) (E_BadDay : ErrS K mg "BadDay" X_BadDay) (E_BadWeights : ErrS K mg "BadWeights" X_BadWeights) (C__law_number : Cal P w K mg base 1 "_law_number" P__law_number sp__law_number) : Cal P w K mg base 2 "_law_take" P__law_take sp__law_take :=
  ⟨⟨f, fd, ok__law_take F B R_Rule R_Weights E_SiltError E_BadDay E_BadWeights C__law_number, hm, F.kp, F.binds (ps := P__law_take) fun _ _ _ _ _ _ us hl => match us, hl with | [_, _], _ => rfl⟩, mono_spR⟩

def sp__law_pick : SpD := spR 1 (fun xs ds => drawOk xs ∧ ∃ zs, ds = [.lst zs] ∧ zs ≠ []) (fun xs ds d ys => drawOk ys ∧ ∃ zs, ds = [.lst zs] ∧ d ∈ zs)

abbrev s__law_pick : Stmt := top 49
def N__law_pick : List Str := ["draw", "items"]
def P__law_pick : List Str := ["draw", "items"]
theorem sc__law_pick : FnScope N__law_pick P__law_pick (defScope s__law_pick) := ⟨rfl, rfl, rfl, by decide +kernel, rfl, by decide +kernel, by decide +kernel⟩
theorem ok__law_pick {f : Addr} {fd : FuncData} (F : Fun K "_law_pick" "_law_pick" s__law_pick f fd) (B : Bl K mg C A_Weights) (R_Rule : RuleS K mg C) (R_Weights : WeightsS K mg A_Weights) (E_SiltError : ErrS K mg "SiltError" X_SiltError) (E_BadDay : ErrS K mg "BadDay" X_BadDay) (E_BadWeights : ErrS K mg "BadWeights" X_BadWeights) (C__law_take : Cal P w K mg base 2 "_law_take" P__law_take sp__law_take) : FnOk P w K mg base (L2.CX P w) 3 f fd P__law_pick (spOf K sp__law_pick) := by
  refine fn_ok F sc__law_pick len_spR (io := [0]) io_spR (fun cdv A outer sh H E hr =>
 (db_one (ds_ret (de_ix (de_var 1 (pv 1)) (de_c C__law_take (hr.mono (by decide)) (by rfl) (takes_of rfl rfl rfl rfl) (dr_o (i := 0) (pv 0) (dr_v (de_callB call_len len_s (by rfl) B.len (by rfl) (da_cons (de_var 1 (pv 1)) da_nil)) dr_nil))) (fun _ _ => rfl))))) ?_

  rintro ins Q R ⟨_, _, rfl, l, ⟨h1, zs, rfl, h2⟩, k⟩
  dsimp only [sSeq, sIf, sSet, sSetO, sRet, sRetO, sNext, sExpr, wTest, w1, w2, wVar, valOf, Env.at, Env.put, wOD, wLst, wTup, waNil, waCons, waStar, wC, wCall, wCallB, wIf, DL.wTru, truD, wAnd, wOr, DL.wNot, wAndV, wOrV, wNotV, List.map, List.length, List.replicate, List.replicate_succ, List.replicate_zero, DL.putK, OD.toD, o2I, o2I0, addD, mulD, ixD, lenL, lenD, intL, absL, maxL, minL, divmodL, tupleL, blOf, intOf, lstD, tupD, seqOf, outOf, List.tail, Nat.reduceAdd, Nat.reduceSub, wrNil, wrV, wrO, wCallR, wCallRO, takeA, takeK, backA, isOwn, Sl.asD, Sl.asO, spK, noInsO, sAugIx, modL, wIxB, lstOf, wTruB, bor, sExtO, wRep, wSl, wSlB, wCat, wListOf, wpNone, wpSome, DL.isScal, sFor, wRng1, wRng2, gN, gTupD, gConsD, gNilD, sAsg, sPar, parK, wnNil, wnV, wnO, sRetN, ownL, wIsi, isiL, isiD, eqD, neD, wComp, sAug, wGet, isC, wFld, fldD, wMeth, insD, madeK, wrDef, wMut, sRetB, List.nil_append, List.cons_append, DL.D.ty, seqD, gFld, modI, wEnum, wRev1, sumL, allL, anyL, sFreeze, frK, wIter, wIterT, wMake, wBm, idxL, sTry, exmD, sRaise, wEqO, wChain, wDNew, sSetK, modK, dicOf, wDGetB, wDGet, dicD, wDInB, wDGet2B, sAugK, keyD, wOfK, wOfKB, fCopy, fKeys, fSorted, wSortL, wDc, wKeys, wItems, wVals, sForL, noEx, eqK, neK, eqT, neT, ltT, wRng3, kD, N__law_pick]
  have hz : 0 < zs.length := List.length_pos_iff.mpr h2
  refine ⟨trivial, ?_⟩
  refine ⟨_, [.int zs.length], rfl, rfl, ⟨h1, _, rfl, by omega⟩, fun d ys hd => ?_⟩
  obtain ⟨h3, m, r, e, rfl, h4, h5⟩ := hd
  cases e
  obtain ⟨z, e1, e2⟩ := atI_in (xs := zs) h4 h5
  exact ⟨z, e1, trivial, k _ _ ⟨h3, zs, rfl, List.mem_of_getElem? e2⟩⟩

theorem cal__law_pick {f : Addr} {fd : FuncData} (F : Fun K "_law_pick" "_law_pick" s__law_pick f fd) (hm : mg "_law_pick" = some (.ref f)) (B : Bl K mg C A_Weights) (R_Rule : RuleS K mg C) (R_Weights : WeightsS K mg A_Weights) (E_SiltError : ErrS K mg "SiltError" X_SiltError) (E_BadDay : ErrS K mg "BadDay" X_BadDay) (E_BadWeights : ErrS K mg "BadWeights" X_BadWeights) (C__law_take : Cal P w K mg base 2 "_law_take" P__law_take sp__law_take) : Cal P w K mg base 3 "_law_pick" P__law_pick sp__law_pick :=
  ⟨⟨f, fd, ok__law_pick F B R_Rule R_Weights E_SiltError E_BadDay E_BadWeights C__law_take, hm, F.kp, F.binds (ps := P__law_pick) fun _ _ _ _ _ _ us hl => match us, hl with | [_, _], _ => rfl⟩, mono_spR⟩

/-- a pair of a rule: at how many layers it is baked, how many of them -/
def pairD (p : Int × Int) : D := .tup [.int p.1, .int p.2]
def PairOk (p : Int × Int) : Prop := 2 ≤ p.2 ∧ p.2 ≤ 4 ∧ p.2 ≤ p.1 ∧ p.1 ≤ p.2 + 2


def sp__law_pair : SpD := spR 0 (fun xs ds => drawOk xs) (fun xs ds d ys => drawOk ys ∧ ∃ p, d = pairD p ∧ PairOk p)

abbrev s__law_pair : Stmt := top 50
def N__law_pair : List Str := ["draw", "bake"]
def P__law_pair : List Str := ["draw"]
theorem sc__law_pair : FnScope N__law_pair P__law_pair (defScope s__law_pair) := ⟨rfl, rfl, rfl, by decide +kernel, rfl, by decide +kernel, by decide +kernel⟩
theorem ok__law_pair {f : Addr} {fd : FuncData} (F : Fun K "_law_pair" "_law_pair" s__law_pair f fd) (B : Bl K mg C A_Weights) (R_Rule : RuleS K mg C) (R_Weights : WeightsS K mg A_Weights) (E_SiltError : ErrS K mg "SiltError" X_SiltError) (E_BadDay : ErrS K mg "BadDay" X_BadDay) (E_BadWeights : ErrS K mg "BadWeights" X_BadWeights) (C__law_take : Cal P w K mg base 2 "_law_take" P__law_take sp__law_take) (C__law_pick : Cal P w K mg base 3 "_law_pick" P__law_pick sp__law_pick) : FnOk P w K mg base (L2.CX P w) 4 f fd P__law_pair (spOf K sp__law_pair) := by
  refine fn_ok F sc__law_pair len_spR (io := [0]) io_spR (fun cdv A outer sh H E hr =>
 (db_cons (ds_set (i := 1) (show (_ : Nat) ∉ ([0] : List Nat) by decide) sc__law_pair.nd (by rfl) (.inl rfl) (de_add de_int (de_c C__law_take (hr.mono (by decide)) (by rfl) (takes_of rfl rfl rfl rfl) (dr_o (i := 0) (pv 0) (dr_v de_int dr_nil)))))
 (db_one (ds_ret (de_tup (da_cons (de_add (de_var 1 (pv 1)) (de_c C__law_pick (hr.mono (by decide)) (by rfl) (takes_of rfl rfl rfl rfl) (dr_o (i := 0) (pv 0) (dr_v (do_lst (da_cons de_int (da_cons de_int (da_cons de_int (da_cons de_int da_nil))))).de dr_nil)))) (da_cons (de_var 1 (pv 1)) da_nil))))))) ?_

  rintro ins Q R ⟨_, ds, rfl, l, h1, k⟩
  obtain rfl := List.length_eq_zero_iff.mp l
  dsimp only [sSeq, sIf, sSet, sSetO, sRet, sRetO, sNext, sExpr, wTest, w1, w2, wVar, valOf, Env.at, Env.put, wOD, wLst, wTup, waNil, waCons, waStar, wC, wCall, wCallB, wIf, DL.wTru, truD, wAnd, wOr, DL.wNot, wAndV, wOrV, wNotV, List.map, List.length, List.replicate, List.replicate_succ, List.replicate_zero, DL.putK, OD.toD, o2I, o2I0, addD, mulD, ixD, lenL, lenD, intL, absL, maxL, minL, divmodL, tupleL, blOf, intOf, lstD, tupD, seqOf, outOf, List.tail, Nat.reduceAdd, Nat.reduceSub, wrNil, wrV, wrO, wCallR, wCallRO, takeA, takeK, backA, isOwn, Sl.asD, Sl.asO, spK, noInsO, sAugIx, modL, wIxB, lstOf, wTruB, bor, sExtO, wRep, wSl, wSlB, wCat, wListOf, wpNone, wpSome, DL.isScal, sFor, wRng1, wRng2, gN, gTupD, gConsD, gNilD, sAsg, sPar, parK, wnNil, wnV, wnO, sRetN, ownL, wIsi, isiL, isiD, eqD, neD, wComp, sAug, wGet, isC, wFld, fldD, wMeth, insD, madeK, wrDef, wMut, sRetB, List.nil_append, List.cons_append, DL.D.ty, seqD, gFld, modI, wEnum, wRev1, sumL, allL, anyL, sFreeze, frK, wIter, wIterT, wMake, wBm, idxL, sTry, exmD, sRaise, wEqO, wChain, wDNew, sSetK, modK, dicOf, wDGetB, wDGet, dicD, wDInB, wDGet2B, sAugK, keyD, wOfK, wOfKB, fCopy, fKeys, fSorted, wSortL, wDc, wKeys, wItems, wVals, sForL, noEx, eqK, neK, eqT, neT, ltT, wRng3, kD, N__law_pair]
  refine ⟨trivial, ?_⟩
  refine ⟨_, [.int 3], rfl, rfl, ⟨h1, _, rfl, by omega⟩, fun d ys hd => ?_⟩
  obtain ⟨h3, m, r, e, rfl, h4, h5⟩ := hd
  cases e
  refine ⟨trivial, by decide, ?_⟩
  refine ⟨_, [.lst [.int 0, .int 0, .int 1, .int 2]], rfl, rfl, ⟨h3, _, rfl, by simp⟩, fun d ys hd => ?_⟩
  obtain ⟨h6, zs, e, h7⟩ := hd
  cases e
  obtain ⟨j, rfl, j1, j2⟩ : ∃ j : Int, d = .int j ∧ 0 ≤ j ∧ j ≤ 2 := by
    simp only [List.mem_cons, List.not_mem_nil, or_false] at h7
    rcases h7 with rfl | rfl | rfl | rfl <;> exact ⟨_, rfl, by decide, by decide⟩
  exact ⟨by decide, trivial, k _ _ ⟨h6, (2 + r + j, 2 + r), rfl, by unfold PairOk; dsimp only; omega⟩⟩

theorem cal__law_pair {f : Addr} {fd : FuncData} (F : Fun K "_law_pair" "_law_pair" s__law_pair f fd) (hm : mg "_law_pair" = some (.ref f)) (B : Bl K mg C A_Weights) (R_Rule : RuleS K mg C) (R_Weights : WeightsS K mg A_Weights) (E_SiltError : ErrS K mg "SiltError" X_SiltError) (E_BadDay : ErrS K mg "BadDay" X_BadDay) (E_BadWeights : ErrS K mg "BadWeights" X_BadWeights) (C__law_take : Cal P w K mg base 2 "_law_take" P__law_take sp__law_take) (C__law_pick : Cal P w K mg base 3 "_law_pick" P__law_pick sp__law_pick) : Cal P w K mg base 4 "_law_pair" P__law_pair sp__law_pair :=
  ⟨⟨f, fd, ok__law_pair F B R_Rule R_Weights E_SiltError E_BadDay E_BadWeights C__law_take C__law_pick, hm, F.kp, F.binds (ps := P__law_pair) fun _ _ _ _ _ _ us hl => match us, hl with | [_], _ => rfl⟩, mono_spR⟩
end L53
set_option Elab.async false
set_option linter.all false
set_option maxRecDepth 100000
set_option maxHeartbeats 0
namespace L53
open PySem L2 DL
variable {P : Program} {w : World} {K : PySem.W.Frag} {mg : Str → Option Value} {base : Heap} {C A_Weights X_SiltError X_BadDay X_BadWeights : Addr}

/-! ## rules as data -/
structure PairV (p : Int × Int) : Prop where
  lo : 2 ≤ p.2
  le : p.2 ≤ p.1
  hi : p.1 ≤ 12
theorem eqv_pair (x y : Int × Int) : PyData.eqv (pairD x).pd (pairD y).pd = decide (x = y) := by
  obtain ⟨a, b⟩ := x
  obtain ⟨c, d⟩ := y
  simp only [pairD, D.pd, pdAll, PyData.eqv, PyData.eqvAll, Bool.and_true]
  by_cases h : a = c
  · by_cases h2 : b = d
    · simp [h, h2]
    · simp [h, h2]
  · simp [h]
theorem cmp_pair (p : Int × Int) : Cmp 1 (pairD p) := .tup fun d hd => by
  simp only [List.mem_cons, List.not_mem_nil, or_false] at hd
  rcases hd with rfl | rfl <;> exact .int _
/-- what stands in a row without an end -/
class Cell (α : Type) [DecidableEq α] where
  e : α → D
  dft : α
  eqv : ∀ x y : α, PyData.eqv (e x).pd (e y).pd = decide (x = y)
  cmp : ∀ x : α, Cmp 1 (e x)
instance : Cell (Int × Int) := ⟨pairD, (2, 2), eqv_pair, cmp_pair⟩
instance : Cell Int := ⟨.int, 0, fun x y => by simp only [D.pd, PyData.eqv]; exact (Bool.beq_eq_decide_eq x y), fun x => ⟨rfl, Nat.zero_le _⟩⟩
def rowAt {α : Type} [DecidableEq α] [Cell α] (f p : List α) (g : Nat) : α := if g < f.length then f.getD g Cell.dft else p.getD ((g - f.length) % p.length) Cell.dft
structure Ru where
  f : List (Int × Int)
  p : List (Int × Int)
  ne : p ≠ []
  ok : ∀ x ∈ f ++ p, PairV x
def Ru.at (r : Ru) (g : Nat) : Int × Int := rowAt r.f r.p g
theorem rowAt_mem {α : Type} [DecidableEq α] [Cell α] {f p : List α} (ne : p ≠ []) (g : Nat) : rowAt f p g ∈ f ++ p := by
  unfold rowAt
  split
  · rename_i h
    rw [List.getD_eq_getElem?_getD, List.getElem?_eq_getElem h]
    exact List.mem_append_left _ (List.getElem_mem h)
  · have h : (g - f.length) % p.length < p.length := Nat.mod_lt _ (List.length_pos_iff.mpr ne)
    rw [List.getD_eq_getElem?_getD, List.getElem?_eq_getElem h]
    exact List.mem_append_right _ (List.getElem_mem h)
theorem Ru.at_ok (r : Ru) (g : Nat) : PairV (r.at g) := r.ok _ (rowAt_mem r.ne g)
def ruleD (C : Addr) (r : Ru) : D := .obj C ["front", "period"] [.tup (r.f.map pairD), .tup (r.p.map pairD)]


variable {α : Type} [DecidableEq α] [Cell α]


def sp_told_at (α : Type) [DecidableEq α] [Cell α] : SpD := spF 3 (fun (a : List α × List α × Nat) => [.tup (a.1.map Cell.e), .tup (a.2.1.map Cell.e), .int a.2.2]) (fun a => a.2.1 ≠ []) (fun a d => d = Cell.e (rowAt a.1 a.2.1 a.2.2))

abbrev s_told_at : Stmt := top 22
def N_told_at : List Str := ["front", "period", "place"]
def P_told_at : List Str := ["front", "period", "place"]
theorem sc_told_at : FnScope N_told_at P_told_at (defScope s_told_at) := ⟨rfl, rfl, rfl, by decide +kernel, rfl, by decide +kernel, by decide +kernel⟩
theorem ok_told_at {f : Addr} {fd : FuncData} (F : Fun K "told_at" "told_at" s_told_at f fd) (B : Bl K mg C A_Weights) (R_Rule : RuleS K mg C) (R_Weights : WeightsS K mg A_Weights) (E_SiltError : ErrS K mg "SiltError" X_SiltError) (E_BadDay : ErrS K mg "BadDay" X_BadDay) (E_BadWeights : ErrS K mg "BadWeights" X_BadWeights)  : FnOk P w K mg base (L2.CX P w) 1 f fd P_told_at (spOf K (sp_told_at α)) := by
  refine fn_ok F sc_told_at len_spF (io := []) io_spF (fun cdv A outer sh H E hr =>
 (db_cons (ds_if (dt_cmp op_lt (ops_I0 fun _ _ _ => .bl _) (de_var 2 (pv 2)) (de_callB call_len len_s (by rfl) B.len (by rfl) (da_cons (de_var 0 (pv 0)) da_nil)) (nomark _)) (db_one (ds_ret (de_ix (de_var 0 (pv 0)) (de_var 2 (pv 2)) (fun _ _ => rfl)))) db_nil)
 (db_one (ds_ret (de_ix (de_var 1 (pv 1)) (de_mod (de_sub (de_var 2 (pv 2)) (de_callB call_len len_s (by rfl) B.len (by rfl) (da_cons (de_var 0 (pv 0)) da_nil))) (de_callB call_len len_s (by rfl) B.len (by rfl) (da_cons (de_var 1 (pv 1)) da_nil))) (fun _ _ => rfl)))))) ?_

  rintro ins Q R ⟨⟨f, p, g⟩, rfl, l, hp, k⟩
  dsimp only [sSeq, sIf, sSet, sSetO, sRet, sRetO, sNext, sExpr, wTest, w1, w2, wVar, valOf, Env.at, Env.put, wOD, wLst, wTup, waNil, waCons, waStar, wC, wCall, wCallB, wIf, DL.wTru, truD, wAnd, wOr, DL.wNot, wAndV, wOrV, wNotV, List.map, List.length, List.replicate, List.replicate_succ, List.replicate_zero, DL.putK, OD.toD, o2I, o2I0, addD, mulD, ixD, lenL, lenD, intL, absL, maxL, minL, divmodL, tupleL, blOf, intOf, lstD, tupD, seqOf, outOf, List.tail, Nat.reduceAdd, Nat.reduceSub, wrNil, wrV, wrO, wCallR, wCallRO, takeA, takeK, backA, isOwn, Sl.asD, Sl.asO, spK, noInsO, sAugIx, modL, wIxB, lstOf, wTruB, bor, sExtO, wRep, wSl, wSlB, wCat, wListOf, wpNone, wpSome, DL.isScal, sFor, wRng1, wRng2, gN, gTupD, gConsD, gNilD, sAsg, sPar, parK, wnNil, wnV, wnO, sRetN, ownL, wIsi, isiL, isiD, eqD, neD, wComp, sAug, wGet, isC, wFld, fldD, wMeth, insD, madeK, wrDef, wMut, sRetB, List.nil_append, List.cons_append, DL.D.ty, seqD, gFld, modI, wEnum, wRev1, sumL, allL, anyL, sFreeze, frK, wIter, wIterT, wMake, wBm, idxL, sTry, exmD, sRaise, wEqO, wChain, wDNew, sSetK, modK, dicOf, wDGetB, wDGet, dicD, wDInB, wDGet2B, sAugK, keyD, wOfK, wOfKB, fCopy, fKeys, fSorted, wSortL, wDc, wKeys, wItems, wVals, sForL, noEx, eqK, neK, eqT, neT, ltT, wRng3, kD, N_told_at] at hp k ⊢
  have hl : 0 < p.length := List.length_pos_iff.mpr hp
  simp only [List.length_map]
  refine ⟨fun h => ?_, fun h => ?_⟩
  · have h : g < f.length := by simpa using h
    refine ⟨Cell.e f[g], by rw [atI_map, atI_nn h]; rfl, trivial, k _ ?_⟩
    unfold rowAt
    rw [if_pos h, List.getD_eq_getElem?_getD, List.getElem?_eq_getElem h]; rfl
  · have h : ¬ g < f.length := by simpa using h
    have e : ((g : Int) - f.length) % p.length = (((g - f.length) % p.length : Nat) : Int) := by
      rw [Int.natCast_emod, Int.ofNat_sub (by omega)]
    have hm : (g - f.length) % p.length < p.length := Nat.mod_lt _ hl
    refine ⟨by omega, Cell.e p[(g - f.length) % p.length], by rw [atI_map, e, atI_nn hm]; rfl, trivial, k _ ?_⟩
    unfold rowAt
    rw [if_neg h, List.getD_eq_getElem?_getD, List.getElem?_eq_getElem hm]; rfl

theorem cal_told_at {f : Addr} {fd : FuncData} (F : Fun K "told_at" "told_at" s_told_at f fd) (hm : mg "told_at" = some (.ref f)) (B : Bl K mg C A_Weights) (R_Rule : RuleS K mg C) (R_Weights : WeightsS K mg A_Weights) (E_SiltError : ErrS K mg "SiltError" X_SiltError) (E_BadDay : ErrS K mg "BadDay" X_BadDay) (E_BadWeights : ErrS K mg "BadWeights" X_BadWeights)  : Cal P w K mg base 1 "told_at" P_told_at (sp_told_at α) :=
  ⟨⟨f, fd, ok_told_at F B R_Rule R_Weights E_SiltError E_BadDay E_BadWeights , hm, F.kp, F.binds (ps := P_told_at) fun _ _ _ _ _ _ us hl => match us, hl with | [_, _, _], _ => rfl⟩, mono_spF⟩

def sp_Rule___getitem__ (C : Addr) : SpD := spF 2 (fun (a : Ru × Nat) => [ruleD C a.1, .int a.2]) (fun _ => True) (fun a d => d = pairD (a.1.at a.2))

abbrev s_Rule___getitem__ : Stmt := inClass (top 24) 2
def N_Rule___getitem__ : List Str := ["self", "at"]
def P_Rule___getitem__ : List Str := ["self", "at"]
theorem sc_Rule___getitem__ : FnScope N_Rule___getitem__ P_Rule___getitem__ (defScope s_Rule___getitem__) := ⟨rfl, rfl, rfl, by decide +kernel, rfl, by decide +kernel, by decide +kernel⟩
theorem ok_Rule___getitem__ {f : Addr} {fd : FuncData} (F : Fun K "__getitem__" "Rule.__getitem__" s_Rule___getitem__ f fd) (B : Bl K mg C A_Weights) (R_Rule : RuleS K mg C) (R_Weights : WeightsS K mg A_Weights) (E_SiltError : ErrS K mg "SiltError" X_SiltError) (E_BadDay : ErrS K mg "BadDay" X_BadDay) (E_BadWeights : ErrS K mg "BadWeights" X_BadWeights) (C_told_at : Cal P w K mg base 1 "told_at" P_told_at (sp_told_at (Int×Int))) : FnOk P w K mg base (L2.CX P w) 2 f fd P_Rule___getitem__ (spOf K (sp_Rule___getitem__ C)) := by
  refine fn_ok F sc_Rule___getitem__ len_spF (io := []) io_spF (fun cdv A outer sh H E hr =>
 (db_one (ds_ret (de_c C_told_at (hr.mono (by decide)) (by rfl) (takes_of rfl rfl rfl rfl) (dr_v (de_fld R_Rule.cl R_Rule.n_front (de_var 0 (pv 0))) (dr_v (de_fld R_Rule.cl R_Rule.n_period (de_var 0 (pv 0))) (dr_v (de_var 1 (pv 1)) dr_nil))))))) ?_

  rintro ins Q R ⟨⟨r, g⟩, rfl, l, -, k⟩
  dsimp only [sSeq, sIf, sSet, sSetO, sRet, sRetO, sNext, sExpr, wTest, w1, w2, wVar, valOf, Env.at, Env.put, wOD, wLst, wTup, waNil, waCons, waStar, wC, wCall, wCallB, wIf, DL.wTru, truD, wAnd, wOr, DL.wNot, wAndV, wOrV, wNotV, List.map, List.length, List.replicate, List.replicate_succ, List.replicate_zero, DL.putK, OD.toD, o2I, o2I0, addD, mulD, ixD, lenL, lenD, intL, absL, maxL, minL, divmodL, tupleL, blOf, intOf, lstD, tupD, seqOf, outOf, List.tail, Nat.reduceAdd, Nat.reduceSub, wrNil, wrV, wrO, wCallR, wCallRO, takeA, takeK, backA, isOwn, Sl.asD, Sl.asO, spK, noInsO, sAugIx, modL, wIxB, lstOf, wTruB, bor, sExtO, wRep, wSl, wSlB, wCat, wListOf, wpNone, wpSome, DL.isScal, sFor, wRng1, wRng2, gN, gTupD, gConsD, gNilD, sAsg, sPar, parK, wnNil, wnV, wnO, sRetN, ownL, wIsi, isiL, isiD, eqD, neD, wComp, sAug, wGet, isC, wFld, fldD, wMeth, insD, madeK, wrDef, wMut, sRetB, List.nil_append, List.cons_append, DL.D.ty, seqD, gFld, modI, wEnum, wRev1, sumL, allL, anyL, sFreeze, frK, wIter, wIterT, wMake, wBm, idxL, sTry, exmD, sRaise, wEqO, wChain, wDNew, sSetK, modK, dicOf, wDGetB, wDGet, dicD, wDInB, wDGet2B, sAugK, keyD, wOfK, wOfKB, fCopy, fKeys, fSorted, wSortL, wDc, wKeys, wItems, wVals, sForL, noEx, eqK, neK, eqT, neT, ltT, wRng3, kD, N_Rule___getitem__, ruleD, wFld, fldD] at k ⊢
  refine ⟨rfl, rfl, (r.f, r.p, g), rfl, rfl, r.ne, fun d hd => ?_⟩
  subst hd
  exact ⟨trivial, k _ rfl⟩

theorem cal_Rule___getitem__ {f : Addr} {fd : FuncData} (F : Fun K "__getitem__" "Rule.__getitem__" s_Rule___getitem__ f fd) (h1 : PySem.W.findIn K (.ref C) "__getitem__" = some (some (.ref f))) (h2 : PySem.W.fnIn K f = true) (h3 : PySem.W.isFn K (.ref f) = true) (B : Bl K mg C A_Weights) (R_Rule : RuleS K mg C) (R_Weights : WeightsS K mg A_Weights) (E_SiltError : ErrS K mg "SiltError" X_SiltError) (E_BadDay : ErrS K mg "BadDay" X_BadDay) (E_BadWeights : ErrS K mg "BadWeights" X_BadWeights) (C_told_at : Cal P w K mg base 1 "told_at" P_told_at (sp_told_at (Int×Int))) : CalG P w K mg base C 2 P_Rule___getitem__ (sp_Rule___getitem__ C) :=
  ⟨⟨f, fd, ok_Rule___getitem__ F B R_Rule R_Weights E_SiltError E_BadDay E_BadWeights C_told_at, h1, h2, h3, F.binds (ps := P_Rule___getitem__) fun _ _ _ _ _ _ us hl => match us, hl with | [_, _], _ => rfl⟩, mono_spF⟩

def sizeR (r : Ru) : Nat → Int
  | 0 => 1
  | g + 1 => sizeR r g * (r.at g).2
def owedR (r : Ru) : Nat → Int
  | 0 => 0
  | g + 1 => owedR r g + sizeR r g * ((r.at g).1 - (r.at g).2)


def sp_Rule_size (C : Addr) : SpD := spF 2 (fun (a : Ru × Nat) => [ruleD C a.1, .int a.2]) (fun a => a.2 < 2 ^ 60) (fun a d => d = .int (sizeR a.1 a.2))

abbrev s_Rule_size : Stmt := inClass (top 24) 4
def N_Rule_size : List Str := ["self", "grade", "days", "lesser"]
def P_Rule_size : List Str := ["self", "grade"]
theorem sc_Rule_size : FnScope N_Rule_size P_Rule_size (defScope s_Rule_size) := ⟨rfl, rfl, rfl, by decide +kernel, rfl, by decide +kernel, by decide +kernel⟩
theorem ok_Rule_size {f : Addr} {fd : FuncData} (F : Fun K "size" "Rule.size" s_Rule_size f fd) (B : Bl K mg C A_Weights) (R_Rule : RuleS K mg C) (R_Weights : WeightsS K mg A_Weights) (E_SiltError : ErrS K mg "SiltError" X_SiltError) (E_BadDay : ErrS K mg "BadDay" X_BadDay) (E_BadWeights : ErrS K mg "BadWeights" X_BadWeights) (C_Rule___getitem__ : CalG P w K mg base C 2 P_Rule___getitem__ (sp_Rule___getitem__ C)) : FnOk P w K mg base (L2.CX P w) 4 f fd P_Rule_size (spOf K (sp_Rule_size C)) := by
  refine fn_ok F sc_Rule_size len_spF (io := []) io_spF (fun cdv A outer sh H E hr =>
 (db_cons (ds_set (i := 2) (show (_ : Nat) ∉ ([] : List Nat) by decide) sc_Rule_size.nd (by rfl) (.inl rfl) de_int)
 (db_cons (ds_for (vs := [3]) (passes_of rfl) rfl (di_range1 (by rfl) B.range (da_cons (de_var 1 (pv 1)) da_nil)) (dg_name (i := 3) (show (_ : Nat) ∉ ([] : List Nat) by decide) (by decide) sc_Rule_size.nd (by rfl) (.inl rfl)) (db_one (ds_aug (i := 2) (show (_ : Nat) ∉ ([] : List Nat) by decide) sc_Rule_size.nd (by rfl) (.inl rfl) iop_mul imul_s (de_ix (de_g C_Rule___getitem__ (de_var 0 (pv 0)) (de_var 3 (pv 3)) (hr.mono (by decide)) (takes_of rfl rfl rfl rfl)) de_int (fun _ _ => rfl)))))
 (db_one (ds_ret (de_var 2 (pv 2))))))) ?_

  rintro ins Q R ⟨⟨r, g⟩, rfl, l, hg, k⟩
  dsimp only [sSeq, sIf, sSet, sSetO, sRet, sRetO, sNext, sExpr, wTest, w1, w2, wVar, valOf, Env.at, Env.put, wOD, wLst, wTup, waNil, waCons, waStar, wC, wCall, wCallB, wIf, DL.wTru, truD, wAnd, wOr, DL.wNot, wAndV, wOrV, wNotV, List.map, List.length, List.replicate, List.replicate_succ, List.replicate_zero, DL.putK, OD.toD, o2I, o2I0, addD, mulD, ixD, lenL, lenD, intL, absL, maxL, minL, divmodL, tupleL, blOf, intOf, lstD, tupD, seqOf, outOf, List.tail, Nat.reduceAdd, Nat.reduceSub, wrNil, wrV, wrO, wCallR, wCallRO, takeA, takeK, backA, isOwn, Sl.asD, Sl.asO, spK, noInsO, sAugIx, modL, wIxB, lstOf, wTruB, bor, sExtO, wRep, wSl, wSlB, wCat, wListOf, wpNone, wpSome, DL.isScal, sFor, wRng1, wRng2, gN, gTupD, gConsD, gNilD, sAsg, sPar, parK, wnNil, wnV, wnO, sRetN, ownL, wIsi, isiL, isiD, eqD, neD, wComp, sAug, wGet, isC, wFld, fldD, wMeth, insD, madeK, wrDef, wMut, sRetB, List.nil_append, List.cons_append, DL.D.ty, seqD, gFld, modI, wEnum, wRev1, sumL, allL, anyL, sFreeze, frK, wIter, wIterT, wMake, wBm, idxL, sTry, exmD, sRaise, wEqO, wChain, wDNew, sSetK, modK, dicOf, wDGetB, wDGet, dicD, wDInB, wDGet2B, sAugK, keyD, wOfK, wOfKB, fCopy, fKeys, fSorted, wSortL, wDc, wKeys, wItems, wVals, sForL, noEx, eqK, neK, eqT, neT, ltT, wRng3, kD, N_Rule_size] at hg k ⊢
  refine ⟨by omega, ?_⟩
  rw [Int.toNat_natCast]
  refine forGo_rng g (fun i ρ => ∃ s, ρ = [.v (ruleD C r), .v (.int g), .v (.int (sizeR r i)), s] ∧ noIns s) (fun i ρ hi hI P hP => ?_) (fun ρ hI => ?_) ⟨.no, rfl, trivial⟩
  · obtain ⟨s, rfl, hs⟩ := hI
    refine putK_intro (by simp) hs ?_
    dsimp only [sSeq, sIf, sSet, sSetO, sRet, sRetO, sNext, sExpr, wTest, w1, w2, wVar, valOf, Env.at, Env.put, wOD, wLst, wTup, waNil, waCons, waStar, wC, wCall, wCallB, wIf, DL.wTru, truD, wAnd, wOr, DL.wNot, wAndV, wOrV, wNotV, List.map, List.length, List.replicate, List.replicate_succ, List.replicate_zero, DL.putK, OD.toD, o2I, o2I0, addD, mulD, ixD, lenL, lenD, intL, absL, maxL, minL, divmodL, tupleL, blOf, intOf, lstD, tupD, seqOf, outOf, List.tail, Nat.reduceAdd, Nat.reduceSub, wrNil, wrV, wrO, wCallR, wCallRO, takeA, takeK, backA, isOwn, Sl.asD, Sl.asO, spK, noInsO, sAugIx, modL, wIxB, lstOf, wTruB, bor, sExtO, wRep, wSl, wSlB, wCat, wListOf, wpNone, wpSome, DL.isScal, sFor, wRng1, wRng2, gN, gTupD, gConsD, gNilD, sAsg, sPar, parK, wnNil, wnV, wnO, sRetN, ownL, wIsi, isiL, isiD, eqD, neD, wComp, sAug, wGet, isC, wFld, fldD, wMeth, insD, madeK, wrDef, wMut, sRetB, List.nil_append, List.cons_append, DL.D.ty, seqD, gFld, modI, wEnum, wRev1, sumL, allL, anyL, sFreeze, frK, wIter, wIterT, wMake, wBm, idxL, sTry, exmD, sRaise, wEqO, wChain, wDNew, sSetK, modK, dicOf, wDGetB, wDGet, dicD, wDInB, wDGet2B, sAugK, keyD, wOfK, wOfKB, fCopy, fKeys, fSorted, wSortL, wDc, wKeys, wItems, wVals, sForL, noEx, eqK, neK, eqT, neT, ltT, wRng3, kD, N_Rule_size]
    refine ⟨rfl, (r, i), rfl, rfl, trivial, fun d hd => ?_⟩
    subst hd
    have ok := r.at_ok i
    refine ⟨.int (r.at i).2, rfl, .inr ⟨by have := ok.lo; omega, by have := ok.hi; have := ok.le; omega⟩, hP _ ⟨_, rfl, trivial⟩⟩
  · obtain ⟨s, rfl, hs⟩ := hI
    exact ⟨trivial, k _ rfl⟩

theorem cal_Rule_size {f : Addr} {fd : FuncData} (F : Fun K "size" "Rule.size" s_Rule_size f fd) (M : Meth K C "size" f) (B : Bl K mg C A_Weights) (R_Rule : RuleS K mg C) (R_Weights : WeightsS K mg A_Weights) (E_SiltError : ErrS K mg "SiltError" X_SiltError) (E_BadDay : ErrS K mg "BadDay" X_BadDay) (E_BadWeights : ErrS K mg "BadWeights" X_BadWeights) (C_Rule___getitem__ : CalG P w K mg base C 2 P_Rule___getitem__ (sp_Rule___getitem__ C)) : CalM P w K mg base C 4 "size" P_Rule_size (sp_Rule_size C) :=
  ⟨⟨f, fd, ok_Rule_size F B R_Rule R_Weights E_SiltError E_BadDay E_BadWeights C_Rule___getitem__, M, F.binds (ps := P_Rule_size) fun _ _ _ _ _ _ us hl => match us, hl with | [_, _], _ => rfl⟩, mono_spF⟩

def sp_Rule_owed (C : Addr) : SpD := spF 2 (fun (a : Ru × Nat) => [ruleD C a.1, .int a.2]) (fun a => a.2 < 2 ^ 60) (fun a d => d = .int (owedR a.1 a.2))

abbrev s_Rule_owed : Stmt := inClass (top 24) 5
def N_Rule_owed : List Str := ["self", "grade", "total", "days", "lesser", "most", "many"]
def P_Rule_owed : List Str := ["self", "grade"]
theorem sc_Rule_owed : FnScope N_Rule_owed P_Rule_owed (defScope s_Rule_owed) := ⟨rfl, rfl, rfl, by decide +kernel, rfl, by decide +kernel, by decide +kernel⟩
theorem ok_Rule_owed {f : Addr} {fd : FuncData} (F : Fun K "owed" "Rule.owed" s_Rule_owed f fd) (B : Bl K mg C A_Weights) (R_Rule : RuleS K mg C) (R_Weights : WeightsS K mg A_Weights) (E_SiltError : ErrS K mg "SiltError" X_SiltError) (E_BadDay : ErrS K mg "BadDay" X_BadDay) (E_BadWeights : ErrS K mg "BadWeights" X_BadWeights) (C_Rule___getitem__ : CalG P w K mg base C 2 P_Rule___getitem__ (sp_Rule___getitem__ C)) : FnOk P w K mg base (L2.CX P w) 4 f fd P_Rule_owed (spOf K (sp_Rule_owed C)) := by
  refine fn_ok F sc_Rule_owed len_spF (io := []) io_spF (fun cdv A outer sh H E hr =>
 (db_cons (ds_asg (vs := [2, 3]) (de_tup (da_cons de_int (da_cons de_int da_nil))) (dg_tup (n := 2) rfl (dgs_cons (dg_name (i := 2) (show (_ : Nat) ∉ ([] : List Nat) by decide) (by decide) sc_Rule_owed.nd (by rfl) (.inl rfl)) (dgs_cons (dg_name (i := 3) (show (_ : Nat) ∉ ([] : List Nat) by decide) (by decide) sc_Rule_owed.nd (by rfl) (.inl rfl)) dgs_nil))))
 (db_cons (ds_for (vs := [4]) (passes_of rfl) rfl (di_range1 (by rfl) B.range (da_cons (de_var 1 (pv 1)) da_nil)) (dg_name (i := 4) (show (_ : Nat) ∉ ([] : List Nat) by decide) (by decide) sc_Rule_owed.nd (by rfl) (.inl rfl)) (db_cons (ds_asg (vs := [5, 6]) (de_g C_Rule___getitem__ (de_var 0 (pv 0)) (de_var 4 (pv 4)) (hr.mono (by decide)) (takes_of rfl rfl rfl rfl)) (dg_tup (n := 2) rfl (dgs_cons (dg_name (i := 5) (show (_ : Nat) ∉ ([] : List Nat) by decide) (by decide) sc_Rule_owed.nd (by rfl) (.inl rfl)) (dgs_cons (dg_name (i := 6) (show (_ : Nat) ∉ ([] : List Nat) by decide) (by decide) sc_Rule_owed.nd (by rfl) (.inl rfl)) dgs_nil))))
 (db_cons (ds_aug (i := 2) (show (_ : Nat) ∉ ([] : List Nat) by decide) sc_Rule_owed.nd (by rfl) (.inl rfl) iop_add iadd_s (de_mul (de_var 3 (pv 3)) (de_sub (de_var 5 (pv 5)) (de_var 6 (pv 6)))))
 (db_one (ds_aug (i := 3) (show (_ : Nat) ∉ ([] : List Nat) by decide) sc_Rule_owed.nd (by rfl) (.inl rfl) iop_mul imul_s (de_var 6 (pv 6)))))))
 (db_one (ds_ret (de_var 2 (pv 2))))))) ?_

  rintro ins Q R ⟨⟨r, g⟩, rfl, l, hg, k⟩
  dsimp only [sSeq, sIf, sSet, sSetO, sRet, sRetO, sNext, sExpr, wTest, w1, w2, wVar, valOf, Env.at, Env.put, wOD, wLst, wTup, waNil, waCons, waStar, wC, wCall, wCallB, wIf, DL.wTru, truD, wAnd, wOr, DL.wNot, wAndV, wOrV, wNotV, List.map, List.length, List.replicate, List.replicate_succ, List.replicate_zero, DL.putK, OD.toD, o2I, o2I0, addD, mulD, ixD, lenL, lenD, intL, absL, maxL, minL, divmodL, tupleL, blOf, intOf, lstD, tupD, seqOf, outOf, List.tail, Nat.reduceAdd, Nat.reduceSub, wrNil, wrV, wrO, wCallR, wCallRO, takeA, takeK, backA, isOwn, Sl.asD, Sl.asO, spK, noInsO, sAugIx, modL, wIxB, lstOf, wTruB, bor, sExtO, wRep, wSl, wSlB, wCat, wListOf, wpNone, wpSome, DL.isScal, sFor, wRng1, wRng2, gN, gTupD, gConsD, gNilD, sAsg, sPar, parK, wnNil, wnV, wnO, sRetN, ownL, wIsi, isiL, isiD, eqD, neD, wComp, sAug, wGet, isC, wFld, fldD, wMeth, insD, madeK, wrDef, wMut, sRetB, List.nil_append, List.cons_append, DL.D.ty, seqD, gFld, modI, wEnum, wRev1, sumL, allL, anyL, sFreeze, frK, wIter, wIterT, wMake, wBm, idxL, sTry, exmD, sRaise, wEqO, wChain, wDNew, sSetK, modK, dicOf, wDGetB, wDGet, dicD, wDInB, wDGet2B, sAugK, keyD, wOfK, wOfKB, fCopy, fKeys, fSorted, wSortL, wDc, wKeys, wItems, wVals, sForL, noEx, eqK, neK, eqT, neT, ltT, wRng3, kD, N_Rule_owed] at hg k ⊢
  refine ⟨by decide, rfl, rfl, by omega, ?_⟩
  rw [Int.toNat_natCast]
  refine forGo_rng g (fun i ρ => ∃ s t u, ρ = [.v (ruleD C r), .v (.int g), .v (.int (owedR r i)), .v (.int (sizeR r i)), s, t, u] ∧ noIns s ∧ noIns t ∧ noIns u) (fun i ρ hi hI P hP => ?_) (fun ρ hI => ?_) ⟨.no, .no, .no, rfl, trivial, trivial, trivial⟩
  · obtain ⟨s, t, u, rfl, hs, ht, hu⟩ := hI
    refine putK_intro (by simp) hs ?_
    dsimp only [sSeq, sIf, sSet, sSetO, sRet, sRetO, sNext, sExpr, wTest, w1, w2, wVar, valOf, Env.at, Env.put, wOD, wLst, wTup, waNil, waCons, waStar, wC, wCall, wCallB, wIf, DL.wTru, truD, wAnd, wOr, DL.wNot, wAndV, wOrV, wNotV, List.map, List.length, List.replicate, List.replicate_succ, List.replicate_zero, DL.putK, OD.toD, o2I, o2I0, addD, mulD, ixD, lenL, lenD, intL, absL, maxL, minL, divmodL, tupleL, blOf, intOf, lstD, tupD, seqOf, outOf, List.tail, Nat.reduceAdd, Nat.reduceSub, wrNil, wrV, wrO, wCallR, wCallRO, takeA, takeK, backA, isOwn, Sl.asD, Sl.asO, spK, noInsO, sAugIx, modL, wIxB, lstOf, wTruB, bor, sExtO, wRep, wSl, wSlB, wCat, wListOf, wpNone, wpSome, DL.isScal, sFor, wRng1, wRng2, gN, gTupD, gConsD, gNilD, sAsg, sPar, parK, wnNil, wnV, wnO, sRetN, ownL, wIsi, isiL, isiD, eqD, neD, wComp, sAug, wGet, isC, wFld, fldD, wMeth, insD, madeK, wrDef, wMut, sRetB, List.nil_append, List.cons_append, DL.D.ty, seqD, gFld, modI, wEnum, wRev1, sumL, allL, anyL, sFreeze, frK, wIter, wIterT, wMake, wBm, idxL, sTry, exmD, sRaise, wEqO, wChain, wDNew, sSetK, modK, dicOf, wDGetB, wDGet, dicD, wDInB, wDGet2B, sAugK, keyD, wOfK, wOfKB, fCopy, fKeys, fSorted, wSortL, wDc, wKeys, wItems, wVals, sForL, noEx, eqK, neK, eqT, neT, ltT, wRng3, kD, N_Rule_owed]
    refine ⟨rfl, (r, i), rfl, rfl, trivial, fun d hd => ?_⟩
    subst hd
    refine ⟨rfl, putK_intro (by simp) ht (putK_intro (by simp [Env.put_len]) hu ⟨rfl, ?_⟩)⟩
    have ok := r.at_ok i
    have h1 := ok.lo; have h2 := ok.le; have h3 := ok.hi
    dsimp only [sSeq, sIf, sSet, sSetO, sRet, sRetO, sNext, sExpr, wTest, w1, w2, wVar, valOf, Env.at, Env.put, wOD, wLst, wTup, waNil, waCons, waStar, wC, wCall, wCallB, wIf, DL.wTru, truD, wAnd, wOr, DL.wNot, wAndV, wOrV, wNotV, List.map, List.length, List.replicate, List.replicate_succ, List.replicate_zero, DL.putK, OD.toD, o2I, o2I0, addD, mulD, ixD, lenL, lenD, intL, absL, maxL, minL, divmodL, tupleL, blOf, intOf, lstD, tupD, seqOf, outOf, List.tail, Nat.reduceAdd, Nat.reduceSub, wrNil, wrV, wrO, wCallR, wCallRO, takeA, takeK, backA, isOwn, Sl.asD, Sl.asO, spK, noInsO, sAugIx, modL, wIxB, lstOf, wTruB, bor, sExtO, wRep, wSl, wSlB, wCat, wListOf, wpNone, wpSome, DL.isScal, sFor, wRng1, wRng2, gN, gTupD, gConsD, gNilD, sAsg, sPar, parK, wnNil, wnV, wnO, sRetN, ownL, wIsi, isiL, isiD, eqD, neD, wComp, sAug, wGet, isC, wFld, fldD, wMeth, insD, madeK, wrDef, wMut, sRetB, List.nil_append, List.cons_append, DL.D.ty, seqD, gFld, modI, wEnum, wRev1, sumL, allL, anyL, sFreeze, frK, wIter, wIterT, wMake, wBm, idxL, sTry, exmD, sRaise, wEqO, wChain, wDNew, sSetK, modK, dicOf, wDGetB, wDGet, dicD, wDInB, wDGet2B, sAugK, keyD, wOfK, wOfKB, fCopy, fKeys, fSorted, wSortL, wDc, wKeys, wItems, wVals, sForL, noEx, eqK, neK, eqT, neT, ltT, wRng3, kD, N_Rule_owed]
    refine ⟨mulOk_r (by omega), .inr (by omega), hP _ ⟨_, _, _, rfl, trivial, trivial, trivial⟩⟩
  · obtain ⟨s, t, u, rfl, hs, ht, hu⟩ := hI
    exact ⟨trivial, k _ rfl⟩

theorem cal_Rule_owed {f : Addr} {fd : FuncData} (F : Fun K "owed" "Rule.owed" s_Rule_owed f fd) (M : Meth K C "owed" f) (B : Bl K mg C A_Weights) (R_Rule : RuleS K mg C) (R_Weights : WeightsS K mg A_Weights) (E_SiltError : ErrS K mg "SiltError" X_SiltError) (E_BadDay : ErrS K mg "BadDay" X_BadDay) (E_BadWeights : ErrS K mg "BadWeights" X_BadWeights) (C_Rule___getitem__ : CalG P w K mg base C 2 P_Rule___getitem__ (sp_Rule___getitem__ C)) : CalM P w K mg base C 4 "owed" P_Rule_owed (sp_Rule_owed C) :=
  ⟨⟨f, fd, ok_Rule_owed F B R_Rule R_Weights E_SiltError E_BadDay E_BadWeights C_Rule___getitem__, M, F.binds (ps := P_Rule_owed) fun _ _ _ _ _ _ us hl => match us, hl with | [_, _], _ => rfl⟩, mono_spF⟩

def bakesR (p : Int × Int) (n : Int) : Int := max 0 ((n - p.1 + p.2) / p.2)
theorem bakesR_lt {p : Int × Int} (h : PairV p) {n : Int} (hn : 0 < n) : bakesR p n < n := by
  unfold bakesR
  have h1 := h.lo; have h2 := h.le
  have : (n - p.1 + p.2) / p.2 < n := by
    rw [Int.ediv_lt_iff_lt_mul (by omega)]
    have : n * 2 ≤ n * p.2 := Int.mul_le_mul_of_nonneg_left h1 (by omega)
    omega
  omega
theorem bakesR_nn (p : Int × Int) (n : Int) : 0 ≤ bakesR p n := by unfold bakesR; omega


def sp_times_baked : SpD := spF 2 (fun (a : (Int × Int) × Int) => [pairD a.1, .int a.2]) (fun a => PairV a.1) (fun a d => d = .int (bakesR a.1 a.2))

abbrev s_times_baked : Stmt := top 13
def N_times_baked : List Str := ["pair", "made", "most", "many"]
def P_times_baked : List Str := ["pair", "made"]
theorem sc_times_baked : FnScope N_times_baked P_times_baked (defScope s_times_baked) := ⟨rfl, rfl, rfl, by decide +kernel, rfl, by decide +kernel, by decide +kernel⟩
theorem ok_times_baked {f : Addr} {fd : FuncData} (F : Fun K "times_baked" "times_baked" s_times_baked f fd) (B : Bl K mg C A_Weights) (R_Rule : RuleS K mg C) (R_Weights : WeightsS K mg A_Weights) (E_SiltError : ErrS K mg "SiltError" X_SiltError) (E_BadDay : ErrS K mg "BadDay" X_BadDay) (E_BadWeights : ErrS K mg "BadWeights" X_BadWeights)  : FnOk P w K mg base (L2.CX P w) 1 f fd P_times_baked (spOf K sp_times_baked) := by
  refine fn_ok F sc_times_baked len_spF (io := []) io_spF (fun cdv A outer sh H E hr =>
 (db_cons (ds_asg (vs := [2, 3]) (de_var 0 (pv 0)) (dg_tup (n := 2) rfl (dgs_cons (dg_name (i := 2) (show (_ : Nat) ∉ ([] : List Nat) by decide) (by decide) sc_times_baked.nd (by rfl) (.inl rfl)) (dgs_cons (dg_name (i := 3) (show (_ : Nat) ∉ ([] : List Nat) by decide) (by decide) sc_times_baked.nd (by rfl) (.inl rfl)) dgs_nil))))
 (db_one (ds_ret (de_callB (call_max2 rfl) max_s (by rfl) B.max (by rfl) (da_cons de_int (da_cons (de_fdiv (de_add (de_sub (de_var 1 (pv 1)) (de_var 2 (pv 2))) (de_var 3 (pv 3))) (de_var 3 (pv 3))) da_nil))))))) ?_

  rintro ins Q R ⟨⟨p, n⟩, rfl, l, hp, k⟩
  dsimp only [sSeq, sIf, sSet, sSetO, sRet, sRetO, sNext, sExpr, wTest, w1, w2, wVar, valOf, Env.at, Env.put, wOD, wLst, wTup, waNil, waCons, waStar, wC, wCall, wCallB, wIf, DL.wTru, truD, wAnd, wOr, DL.wNot, wAndV, wOrV, wNotV, List.map, List.length, List.replicate, List.replicate_succ, List.replicate_zero, DL.putK, OD.toD, o2I, o2I0, addD, mulD, ixD, lenL, lenD, intL, absL, maxL, minL, divmodL, tupleL, blOf, intOf, lstD, tupD, seqOf, outOf, List.tail, Nat.reduceAdd, Nat.reduceSub, wrNil, wrV, wrO, wCallR, wCallRO, takeA, takeK, backA, isOwn, Sl.asD, Sl.asO, spK, noInsO, sAugIx, modL, wIxB, lstOf, wTruB, bor, sExtO, wRep, wSl, wSlB, wCat, wListOf, wpNone, wpSome, DL.isScal, sFor, wRng1, wRng2, gN, gTupD, gConsD, gNilD, sAsg, sPar, parK, wnNil, wnV, wnO, sRetN, ownL, wIsi, isiL, isiD, eqD, neD, wComp, sAug, wGet, isC, wFld, fldD, wMeth, insD, madeK, wrDef, wMut, sRetB, List.nil_append, List.cons_append, DL.D.ty, seqD, gFld, modI, wEnum, wRev1, sumL, allL, anyL, sFreeze, frK, wIter, wIterT, wMake, wBm, idxL, sTry, exmD, sRaise, wEqO, wChain, wDNew, sSetK, modK, dicOf, wDGetB, wDGet, dicD, wDInB, wDGet2B, sAugK, keyD, wOfK, wOfKB, fCopy, fKeys, fSorted, wSortL, wDc, wKeys, wItems, wVals, sForL, noEx, eqK, neK, eqT, neT, ltT, wRng3, kD, N_times_baked, pairD] at hp k ⊢
  have h1 := hp.lo; have h2 := hp.le; have h3 := hp.hi
  exact ⟨rfl, rfl, divOk_small (by omega) (by omega), trivial, k _ rfl⟩

theorem cal_times_baked {f : Addr} {fd : FuncData} (F : Fun K "times_baked" "times_baked" s_times_baked f fd) (hm : mg "times_baked" = some (.ref f)) (B : Bl K mg C A_Weights) (R_Rule : RuleS K mg C) (R_Weights : WeightsS K mg A_Weights) (E_SiltError : ErrS K mg "SiltError" X_SiltError) (E_BadDay : ErrS K mg "BadDay" X_BadDay) (E_BadWeights : ErrS K mg "BadWeights" X_BadWeights)  : Cal P w K mg base 1 "times_baked" P_times_baked sp_times_baked :=
  ⟨⟨f, fd, ok_times_baked F B R_Rule R_Weights E_SiltError E_BadDay E_BadWeights , hm, F.kp, F.binds (ps := P_times_baked) fun _ _ _ _ _ _ us hl => match us, hl with | [_, _], _ => rfl⟩, mono_spF⟩

theorem bakesR_half {p : Int × Int} (h : PairV p) {n : Int} (hn : 0 ≤ n) : bakesR p n * 2 ≤ n := by
  unfold bakesR
  have h1 := h.lo; have h2 := h.le
  have : (n - p.1 + p.2) / p.2 ≤ n / 2 := by
    rw [Int.le_ediv_iff_mul_le (by decide)]
    have h3 : (n - p.1 + p.2) / p.2 * p.2 ≤ n - p.1 + p.2 := Int.ediv_mul_le _ (by omega)
    by_cases h4 : 0 ≤ (n - p.1 + p.2) / p.2
    · have : (n - p.1 + p.2) / p.2 * 2 ≤ (n - p.1 + p.2) / p.2 * p.2 := Int.mul_le_mul_of_nonneg_left h1 h4
      omega
    · omega
  omega
def digsF (r : Ru) : Nat → Nat → Int → List Int
  | 0, _, _ => []
  | k + 1, g, n => if n ≤ 0 then [] else (n - bakesR (r.at g) n * (r.at g).2) :: digsF r k (g + 1) (bakesR (r.at g) n)
theorem digsF_same (r : Ru) : ∀ (k k' g : Nat) (n : Int), n ≤ k → n ≤ k' → digsF r k g n = digsF r k' g n
  | 0, 0, _, _, _, _ => rfl
  | 0, k' + 1, g, n, h, _ => by unfold digsF; rw [if_pos (by omega)]
  | k + 1, 0, g, n, _, h => by unfold digsF; rw [if_pos (by omega)]
  | k + 1, k' + 1, g, n, h, h' => by
    unfold digsF
    by_cases hn : n ≤ 0
    · rw [if_pos hn, if_pos hn]
    · rw [if_neg hn, if_neg hn]
      have := bakesR_lt (r.at_ok g) (n := n) (by omega)
      rw [digsF_same r k k' (g + 1) _ (by omega) (by omega)]
/-- the digits of n layers of the grade g, from the grade g on -/
def digsR (r : Ru) (g : Nat) (n : Int) : List Int := digsF r n.toNat g n
theorem digsR_zero (r : Ru) (g : Nat) {n : Int} (h : n ≤ 0) : digsR r g n = [] := by
  unfold digsR
  have : n.toNat = 0 := by omega
  rw [this]; rfl
theorem digsR_pos (r : Ru) (g : Nat) {n : Int} (h : 0 < n) : digsR r g n = (n - bakesR (r.at g) n * (r.at g).2) :: digsR r (g + 1) (bakesR (r.at g) n) := by
  unfold digsR
  obtain ⟨k, hk⟩ : ∃ k, n.toNat = k + 1 := ⟨n.toNat - 1, by omega⟩
  rw [hk]
  show (if n ≤ 0 then [] else _) = _
  rw [if_neg (by omega)]
  have := bakesR_lt (r.at_ok g) h
  rw [digsF_same r k (bakesR (r.at g) n).toNat (g + 1) _ (by omega) (by have := bakesR_nn (r.at g) n; omega)]


def sp_need_rule (C : Addr) : SpD := spF 1 (fun (a : Ru) => [ruleD C a]) (fun _ => True) (fun _ d => d = .non)

abbrev s_need_rule : Stmt := top 25
def N_need_rule : List Str := ["rule"]
def P_need_rule : List Str := ["rule"]
theorem sc_need_rule : FnScope N_need_rule P_need_rule (defScope s_need_rule) := ⟨rfl, rfl, rfl, by decide +kernel, rfl, by decide +kernel, by decide +kernel⟩
-- [('raise', 'raise BadRule(None)')]
theorem ok_need_rule {f : Addr} {fd : FuncData} (F : Fun K "need_rule" "need_rule" s_need_rule f fd) (B : Bl K mg C A_Weights) (R_Rule : RuleS K mg C) (R_Weights : WeightsS K mg A_Weights) (E_SiltError : ErrS K mg "SiltError" X_SiltError) (E_BadDay : ErrS K mg "BadDay" X_BadDay) (E_BadWeights : ErrS K mg "BadWeights" X_BadWeights)  : FnOk P w K mg base (L2.CX P w) 1 f fd P_need_rule (spOf K (sp_need_rule C)) := by
  refine fn_ok F sc_need_rule len_spF (io := []) io_spF (fun cdv A outer sh H E hr =>
 (db_one (ds_if (dt_not (dt_tru (de_callB call_isi (isi_s (.own _) B.isc B.tn B.k_Rule) (by rfl) B.isinstance (by rfl) (da_cons (de_var 0 (pv 0)) (da_cons (de_raw (pe_glob (v := .ref C) (by rfl) R_Rule.mg rfl) rfl) da_nil))) (fun _ => rfl))) (db_one ds_dead) db_nil))) ?_

  rintro ins Q R ⟨r, rfl, l, -, k⟩
  dsimp only [sSeq, sIf, sSet, sSetO, sRet, sRetO, sNext, sExpr, wTest, w1, w2, wVar, valOf, Env.at, Env.put, wOD, wLst, wTup, waNil, waCons, waStar, wC, wCall, wCallB, wIf, DL.wTru, truD, wAnd, wOr, DL.wNot, wAndV, wOrV, wNotV, List.map, List.length, List.replicate, List.replicate_succ, List.replicate_zero, DL.putK, OD.toD, o2I, o2I0, addD, mulD, ixD, lenL, lenD, intL, absL, maxL, minL, divmodL, tupleL, blOf, intOf, lstD, tupD, seqOf, outOf, List.tail, Nat.reduceAdd, Nat.reduceSub, wrNil, wrV, wrO, wCallR, wCallRO, takeA, takeK, backA, isOwn, Sl.asD, Sl.asO, spK, noInsO, sAugIx, modL, wIxB, lstOf, wTruB, bor, sExtO, wRep, wSl, wSlB, wCat, wListOf, wpNone, wpSome, DL.isScal, sFor, wRng1, wRng2, gN, gTupD, gConsD, gNilD, sAsg, sPar, parK, wnNil, wnV, wnO, sRetN, ownL, wIsi, isiL, isiD, eqD, neD, wComp, sAug, wGet, isC, wFld, fldD, wMeth, insD, madeK, wrDef, wMut, sRetB, List.nil_append, List.cons_append, DL.D.ty, seqD, gFld, modI, wEnum, wRev1, sumL, allL, anyL, sFreeze, frK, wIter, wIterT, wMake, wBm, idxL, sTry, exmD, sRaise, wEqO, wChain, wDNew, sSetK, modK, dicOf, wDGetB, wDGet, dicD, wDInB, wDGet2B, sAugK, keyD, wOfK, wOfKB, fCopy, fKeys, fSorted, wSortL, wDc, wKeys, wItems, wVals, sForL, noEx, eqK, neK, eqT, neT, ltT, wRng3, kD, N_need_rule, ruleD] at k ⊢
  exact ⟨rfl, by simp [tys], fun _ => ⟨fun z => by (cases z), fun _ => k _ rfl⟩, fun z => (z (by simp)).elim⟩

theorem cal_need_rule {f : Addr} {fd : FuncData} (F : Fun K "need_rule" "need_rule" s_need_rule f fd) (hm : mg "need_rule" = some (.ref f)) (B : Bl K mg C A_Weights) (R_Rule : RuleS K mg C) (R_Weights : WeightsS K mg A_Weights) (E_SiltError : ErrS K mg "SiltError" X_SiltError) (E_BadDay : ErrS K mg "BadDay" X_BadDay) (E_BadWeights : ErrS K mg "BadWeights" X_BadWeights)  : Cal P w K mg base 1 "need_rule" P_need_rule (sp_need_rule C) :=
  ⟨⟨f, fd, ok_need_rule F B R_Rule R_Weights E_SiltError E_BadDay E_BadWeights , hm, F.kp, F.binds (ps := P_need_rule) fun _ _ _ _ _ _ us hl => match us, hl with | [_], _ => rfl⟩, mono_spF⟩

def sp_is_whole : SpD := spF 2 (fun (a : Int × Int) => [.int a.1, .int a.2]) (fun _ => True) (fun a d => d = .bl (decide (a.2 ≤ a.1)))

abbrev s_is_whole : Stmt := top 7
def N_is_whole : List Str := ["value", "least"]
def P_is_whole : List Str := ["value", "least"]
theorem sc_is_whole : FnScope N_is_whole P_is_whole (defScope s_is_whole) := ⟨rfl, rfl, rfl, by decide +kernel, rfl, by decide +kernel, by decide +kernel⟩
theorem ok_is_whole {f : Addr} {fd : FuncData} {dvs : List V} {kws : List (Str × V)} (F : FunD K "is_whole" "is_whole" (defArgs s_is_whole) (defBody s_is_whole) (defScope s_is_whole) dvs kws f fd) (B : Bl K mg C A_Weights) (R_Rule : RuleS K mg C) (R_Weights : WeightsS K mg A_Weights) (E_SiltError : ErrS K mg "SiltError" X_SiltError) (E_BadDay : ErrS K mg "BadDay" X_BadDay) (E_BadWeights : ErrS K mg "BadWeights" X_BadWeights)  : FnOk P w K mg base (L2.CX P w) 1 f fd P_is_whole (spOf K sp_is_whole) := by
  refine fn_okD F sc_is_whole len_spF (io := []) io_spF (fun cdv A outer sh H E hr =>
 (db_one (ds_ret (de_and (de_callB call_isi (isi_s (.ty "int") B.isc B.tn B.k_int) (by rfl) B.isinstance (by rfl) (da_cons (de_var 0 (pv 0)) (da_cons (de_raw (pe_bltn (v := .ty "int") (by rfl) B.int (by rfl) rfl) rfl) da_nil))) (de_and (de_not (de_callB call_isi (isi_s (.ty "bool") B.isc B.tn B.k_bool) (by rfl) B.isinstance (by rfl) (da_cons (de_var 0 (pv 0)) (da_cons (de_raw (pe_bltn (v := .ty "bool") (by rfl) B.bool (by rfl) rfl) rfl) da_nil)))) (de_one (de_cmp op_ge (ops_I0 fun _ _ _ => .bl _) (de_var 0 (pv 0)) (de_var 1 (pv 1)) (nomark _)))))))) ?_

  rintro ins Q R ⟨⟨n, m⟩, rfl, l, -, k⟩
  dsimp only [sSeq, sIf, sSet, sSetO, sRet, sRetO, sNext, sExpr, wTest, w1, w2, wVar, valOf, Env.at, Env.put, wOD, wLst, wTup, waNil, waCons, waStar, wC, wCall, wCallB, wIf, DL.wTru, truD, wAnd, wOr, DL.wNot, wAndV, wOrV, wNotV, List.map, List.length, List.replicate, List.replicate_succ, List.replicate_zero, DL.putK, OD.toD, o2I, o2I0, addD, mulD, ixD, lenL, lenD, intL, absL, maxL, minL, divmodL, tupleL, blOf, intOf, lstD, tupD, seqOf, outOf, List.tail, Nat.reduceAdd, Nat.reduceSub, wrNil, wrV, wrO, wCallR, wCallRO, takeA, takeK, backA, isOwn, Sl.asD, Sl.asO, spK, noInsO, sAugIx, modL, wIxB, lstOf, wTruB, bor, sExtO, wRep, wSl, wSlB, wCat, wListOf, wpNone, wpSome, DL.isScal, sFor, wRng1, wRng2, gN, gTupD, gConsD, gNilD, sAsg, sPar, parK, wnNil, wnV, wnO, sRetN, ownL, wIsi, isiL, isiD, eqD, neD, wComp, sAug, wGet, isC, wFld, fldD, wMeth, insD, madeK, wrDef, wMut, sRetB, List.nil_append, List.cons_append, DL.D.ty, seqD, gFld, modI, wEnum, wRev1, sumL, allL, anyL, sFreeze, frK, wIter, wIterT, wMake, wBm, idxL, sTry, exmD, sRaise, wEqO, wChain, wDNew, sSetK, modK, dicOf, wDGetB, wDGet, dicD, wDInB, wDGet2B, sAugK, keyD, wOfK, wOfKB, fCopy, fKeys, fSorted, wSortL, wDc, wKeys, wItems, wVals, sForL, noEx, eqK, neK, eqT, neT, ltT, wRng3, kD, N_is_whole] at k ⊢
  refine ⟨rfl, by simp [tys], fun _ => ⟨fun _ => ?_, fun z => by (cases z)⟩, fun z => (z (by simp)).elim⟩
  refine ⟨rfl, by simp [tys], fun z => absurd z (by simp), fun _ => ⟨fun _ => ?_, fun z => by (cases z)⟩⟩
  exact ⟨trivial, k _ rfl⟩


def sp_need_number : SpD := spF 2 (fun (a : Int × Int) => [.int a.1, .int a.2]) (fun a => a.2 ≤ a.1) (fun _ d => d = .non)

abbrev s_need_number : Stmt := top 8
def N_need_number : List Str := ["value", "least"]
def P_need_number : List Str := ["value", "least"]
theorem sc_need_number : FnScope N_need_number P_need_number (defScope s_need_number) := ⟨rfl, rfl, rfl, by decide +kernel, rfl, by decide +kernel, by decide +kernel⟩
theorem ok_need_number {f : Addr} {fd : FuncData} {dvs : List V} {kws : List (Str × V)} (F : FunD K "need_number" "need_number" (defArgs s_need_number) (defBody s_need_number) (defScope s_need_number) dvs kws f fd) (B : Bl K mg C A_Weights) (R_Rule : RuleS K mg C) (R_Weights : WeightsS K mg A_Weights) (E_SiltError : ErrS K mg "SiltError" X_SiltError) (E_BadDay : ErrS K mg "BadDay" X_BadDay) (E_BadWeights : ErrS K mg "BadWeights" X_BadWeights) (C_is_whole : CalD P w K mg base 1 "is_whole" P_is_whole sp_is_whole [.int 0]) : FnOk P w K mg base (L2.CX P w) 2 f fd P_need_number (spOf K sp_need_number) := by
  refine fn_okD F sc_need_number len_spF (io := []) io_spF (fun cdv A outer sh H E hr =>
 (db_one (ds_if (dt_not (dt_tru (de_c C_is_whole.cal (hr.mono (by decide)) (by rfl) (takes_of rfl rfl rfl rfl) (dr_v (de_var 0 (pv 0)) (dr_v (de_var 1 (pv 1)) dr_nil))) (fun _ => rfl))) (db_one (ds_raiseE rfl (takes_of rfl rfl rfl rfl) E_BadDay (by rfl))) db_nil))) ?_

  rintro ins Q R ⟨⟨n, m⟩, rfl, l, h, k⟩
  dsimp only [sSeq, sIf, sSet, sSetO, sRet, sRetO, sNext, sExpr, wTest, w1, w2, wVar, valOf, Env.at, Env.put, wOD, wLst, wTup, waNil, waCons, waStar, wC, wCall, wCallB, wIf, DL.wTru, truD, wAnd, wOr, DL.wNot, wAndV, wOrV, wNotV, List.map, List.length, List.replicate, List.replicate_succ, List.replicate_zero, DL.putK, OD.toD, o2I, o2I0, addD, mulD, ixD, lenL, lenD, intL, absL, maxL, minL, divmodL, tupleL, blOf, intOf, lstD, tupD, seqOf, outOf, List.tail, Nat.reduceAdd, Nat.reduceSub, wrNil, wrV, wrO, wCallR, wCallRO, takeA, takeK, backA, isOwn, Sl.asD, Sl.asO, spK, noInsO, sAugIx, modL, wIxB, lstOf, wTruB, bor, sExtO, wRep, wSl, wSlB, wCat, wListOf, wpNone, wpSome, DL.isScal, sFor, wRng1, wRng2, gN, gTupD, gConsD, gNilD, sAsg, sPar, parK, wnNil, wnV, wnO, sRetN, ownL, wIsi, isiL, isiD, eqD, neD, wComp, sAug, wGet, isC, wFld, fldD, wMeth, insD, madeK, wrDef, wMut, sRetB, List.nil_append, List.cons_append, DL.D.ty, seqD, gFld, modI, wEnum, wRev1, sumL, allL, anyL, sFreeze, frK, wIter, wIterT, wMake, wBm, idxL, sTry, exmD, sRaise, wEqO, wChain, wDNew, sSetK, modK, dicOf, wDGetB, wDGet, dicD, wDInB, wDGet2B, sAugK, keyD, wOfK, wOfKB, fCopy, fKeys, fSorted, wSortL, wDc, wKeys, wItems, wVals, sForL, noEx, eqK, neK, eqT, neT, ltT, wRng3, kD, N_need_number] at h k ⊢
  refine ⟨(n, m), rfl, rfl, trivial, fun d hd => ?_⟩
  subst hd
  rw [decide_eq_true h]
  exact ⟨fun z => by (cases z), fun _ => k _ rfl⟩


def sp_digits (C : Addr) : SpD := spFO 2 (fun (a : Ru × Int) => [ruleD C a.1, .int a.2]) (fun a => 0 ≤ a.2 ∧ a.2 < 2 ^ 1000) (fun a xs => xs = (digsR a.1 0 a.2).map .int)

abbrev s_digits : Stmt := top 27
def N_digits : List Str := ["rule", "day", "told", "grade", "many", "bakes"]
def P_digits : List Str := ["rule", "day"]
theorem sc_digits : FnScope N_digits P_digits (defScope s_digits) := ⟨rfl, rfl, rfl, by decide +kernel, rfl, by decide +kernel, by decide +kernel⟩
theorem ok_digits {f : Addr} {fd : FuncData} (F : Fun K "digits" "digits" s_digits f fd) (B : Bl K mg C A_Weights) (R_Rule : RuleS K mg C) (R_Weights : WeightsS K mg A_Weights) (E_SiltError : ErrS K mg "SiltError" X_SiltError) (E_BadDay : ErrS K mg "BadDay" X_BadDay) (E_BadWeights : ErrS K mg "BadWeights" X_BadWeights) (C_Rule___getitem__ : CalG P w K mg base C 2 P_Rule___getitem__ (sp_Rule___getitem__ C)) (C_need_rule : Cal P w K mg base 1 "need_rule" P_need_rule (sp_need_rule C)) (C_need_number : CalD P w K mg base 2 "need_number" P_need_number sp_need_number [.int 0]) (C_times_baked : Cal P w K mg base 1 "times_baked" P_times_baked sp_times_baked) : FnOk P w K mg base (L2.CX P w) 6 f fd P_digits (spOf K (sp_digits C)) := by
  refine fn_ok F sc_digits len_spFO (io := []) io_spFO (fun cdv A outer sh H E hr =>
 (db_cons (ds_expr (de_c C_need_rule (hr.mono (by decide)) (by rfl) (takes_of rfl rfl rfl rfl) (dr_v (de_var 0 (pv 0)) dr_nil)))
 (db_cons (ds_expr (de_cd C_need_number (hr.mono (by decide)) (by rfl) (takes_of rfl rfl rfl rfl) (dr_v (de_var 1 (pv 1)) dr_nil)))
 (db_cons (ds_par3 (i := 2) (j := 3) (m := 4) rfl sc_digits.nd (by rfl) (by rfl) (by rfl) (by decide) (by decide) (by decide) (show (_ : Nat) ∉ ([] : List Nat) by decide) (show (_ : Nat) ∉ ([] : List Nat) by decide) (show (_ : Nat) ∉ ([] : List Nat) by decide) (by rfl) (by rfl) (by rfl) (dn_o (do_lst da_nil) (dn_v de_int (dn_v (de_var 1 (pv 1)) dn_nil))))
 (db_cons (ds_while (passes_of rfl) (dt_tru (de_var 4 (pv 4)) (fun _ => rfl)) (db_cons (ds_set (i := 5) (show (_ : Nat) ∉ ([] : List Nat) by decide) sc_digits.nd (by rfl) (.inl rfl) (de_c C_times_baked (hr.mono (by decide)) (by rfl) (takes_of rfl rfl rfl rfl) (dr_v (de_g C_Rule___getitem__ (de_var 0 (pv 0)) (de_var 3 (pv 3)) (hr.mono (by decide)) (takes_of rfl rfl rfl rfl)) (dr_v (de_var 4 (pv 4)) dr_nil))))
 (db_cons (ds_expr (de_append 2 (pv 2) (de_sub (de_var 4 (pv 4)) (de_mul (de_var 5 (pv 5)) (de_ix (de_g C_Rule___getitem__ (de_var 0 (pv 0)) (de_var 3 (pv 3)) (hr.mono (by decide)) (takes_of rfl rfl rfl rfl)) de_int (fun _ _ => rfl))))))
 (db_cons (ds_set (i := 4) (show (_ : Nat) ∉ ([] : List Nat) by decide) sc_digits.nd (by rfl) (.inl rfl) (de_var 5 (pv 5)))
 (db_one (ds_aug (i := 3) (show (_ : Nat) ∉ ([] : List Nat) by decide) sc_digits.nd (by rfl) (.inl rfl) iop_add iadd_s de_int))))))
 (db_one (ds_retB 2 (pv 2)))))))) ?_

  rintro ins Q R ⟨⟨r, n⟩, rfl, l, ⟨h1, h2⟩, k⟩
  dsimp only [sSeq, sIf, sSet, sSetO, sRet, sRetO, sNext, sExpr, wTest, w1, w2, wVar, valOf, Env.at, Env.put, wOD, wLst, wTup, waNil, waCons, waStar, wC, wCall, wCallB, wIf, DL.wTru, truD, wAnd, wOr, DL.wNot, wAndV, wOrV, wNotV, List.map, List.length, List.replicate, List.replicate_succ, List.replicate_zero, DL.putK, OD.toD, o2I, o2I0, addD, mulD, ixD, lenL, lenD, intL, absL, maxL, minL, divmodL, tupleL, blOf, intOf, lstD, tupD, seqOf, outOf, List.tail, Nat.reduceAdd, Nat.reduceSub, wrNil, wrV, wrO, wCallR, wCallRO, takeA, takeK, backA, isOwn, Sl.asD, Sl.asO, spK, noInsO, sAugIx, modL, wIxB, lstOf, wTruB, bor, sExtO, wRep, wSl, wSlB, wCat, wListOf, wpNone, wpSome, DL.isScal, sFor, wRng1, wRng2, gN, gTupD, gConsD, gNilD, sAsg, sPar, parK, wnNil, wnV, wnO, sRetN, ownL, wIsi, isiL, isiD, eqD, neD, wComp, sAug, wGet, isC, wFld, fldD, wMeth, insD, madeK, wrDef, wMut, sRetB, List.nil_append, List.cons_append, DL.D.ty, seqD, gFld, modI, wEnum, wRev1, sumL, allL, anyL, sFreeze, frK, wIter, wIterT, wMake, wBm, idxL, sTry, exmD, sRaise, wEqO, wChain, wDNew, sSetK, modK, dicOf, wDGetB, wDGet, dicD, wDInB, wDGet2B, sAugK, keyD, wOfK, wOfKB, fCopy, fKeys, fSorted, wSortL, wDc, wKeys, wItems, wVals, sForL, noEx, eqK, neK, eqT, neT, ltT, wRng3, kD, N_digits] at h1 h2 k ⊢
  refine ⟨r, rfl, rfl, trivial, fun d hd => ?_⟩
  subst hd
  refine ⟨(n, 0), rfl, rfl, h1, fun d hd => ?_⟩
  subst hd
  refine ⟨by decide, trivial, rfl, ?_⟩
  refine ⟨fun m ρ => ∃ (g : Nat) (b : Int) (acc : List Int) (s : Sl), ρ = [.v (ruleD C r), .v (.int n), .own (.lst (acc.map .int)), .v (.int g), .v (.int b), s] ∧ noIns s ∧ m = b.toNat ∧ 0 ≤ b ∧ acc.length = g ∧ b * 2 ^ g ≤ n ∧ acc ++ digsR r g b = digsR r 0 n,
    ⟨_, 0, n, [], .no, rfl, trivial, rfl, h1, rfl, by simp, rfl⟩, fun m ρ hI => ?_⟩
  obtain ⟨g, b, acc, s, rfl, hs, rfl, b0, hg, hb, he⟩ := hI
  dsimp only [sSeq, sIf, sSet, sSetO, sRet, sRetO, sNext, sExpr, wTest, w1, w2, wVar, valOf, Env.at, Env.put, wOD, wLst, wTup, waNil, waCons, waStar, wC, wCall, wCallB, wIf, DL.wTru, truD, wAnd, wOr, DL.wNot, wAndV, wOrV, wNotV, List.map, List.length, List.replicate, List.replicate_succ, List.replicate_zero, DL.putK, OD.toD, o2I, o2I0, addD, mulD, ixD, lenL, lenD, intL, absL, maxL, minL, divmodL, tupleL, blOf, intOf, lstD, tupD, seqOf, outOf, List.tail, Nat.reduceAdd, Nat.reduceSub, wrNil, wrV, wrO, wCallR, wCallRO, takeA, takeK, backA, isOwn, Sl.asD, Sl.asO, spK, noInsO, sAugIx, modL, wIxB, lstOf, wTruB, bor, sExtO, wRep, wSl, wSlB, wCat, wListOf, wpNone, wpSome, DL.isScal, sFor, wRng1, wRng2, gN, gTupD, gConsD, gNilD, sAsg, sPar, parK, wnNil, wnV, wnO, sRetN, ownL, wIsi, isiL, isiD, eqD, neD, wComp, sAug, wGet, isC, wFld, fldD, wMeth, insD, madeK, wrDef, wMut, sRetB, List.nil_append, List.cons_append, DL.D.ty, seqD, gFld, modI, wEnum, wRev1, sumL, allL, anyL, sFreeze, frK, wIter, wIterT, wMake, wBm, idxL, sTry, exmD, sRaise, wEqO, wChain, wDNew, sSetK, modK, dicOf, wDGetB, wDGet, dicD, wDInB, wDGet2B, sAugK, keyD, wOfK, wOfKB, fCopy, fKeys, fSorted, wSortL, wDc, wKeys, wItems, wVals, sForL, noEx, eqK, neK, eqT, neT, ltT, wRng3, kD, N_digits]
  refine ⟨fun h => ?_, fun h => ?_⟩
  · have hp : 0 < b := by
      have : b ≠ 0 := by simpa using h
      omega
    have ok := r.at_ok g
    have o1 := ok.lo; have o2 := ok.le; have o3 := ok.hi
    refine ⟨rfl, (r, g), rfl, rfl, trivial, fun d hd => ?_⟩
    subst hd
    refine ⟨((r.at g), b), rfl, rfl, ok, fun d hd => ?_⟩
    subst hd
    refine putK_intro (by simp) hs ?_
    dsimp only [sSeq, sIf, sSet, sSetO, sRet, sRetO, sNext, sExpr, wTest, w1, w2, wVar, valOf, Env.at, Env.put, wOD, wLst, wTup, waNil, waCons, waStar, wC, wCall, wCallB, wIf, DL.wTru, truD, wAnd, wOr, DL.wNot, wAndV, wOrV, wNotV, List.map, List.length, List.replicate, List.replicate_succ, List.replicate_zero, DL.putK, OD.toD, o2I, o2I0, addD, mulD, ixD, lenL, lenD, intL, absL, maxL, minL, divmodL, tupleL, blOf, intOf, lstD, tupD, seqOf, outOf, List.tail, Nat.reduceAdd, Nat.reduceSub, wrNil, wrV, wrO, wCallR, wCallRO, takeA, takeK, backA, isOwn, Sl.asD, Sl.asO, spK, noInsO, sAugIx, modL, wIxB, lstOf, wTruB, bor, sExtO, wRep, wSl, wSlB, wCat, wListOf, wpNone, wpSome, DL.isScal, sFor, wRng1, wRng2, gN, gTupD, gConsD, gNilD, sAsg, sPar, parK, wnNil, wnV, wnO, sRetN, ownL, wIsi, isiL, isiD, eqD, neD, wComp, sAug, wGet, isC, wFld, fldD, wMeth, insD, madeK, wrDef, wMut, sRetB, List.nil_append, List.cons_append, DL.D.ty, seqD, gFld, modI, wEnum, wRev1, sumL, allL, anyL, sFreeze, frK, wIter, wIterT, wMake, wBm, idxL, sTry, exmD, sRaise, wEqO, wChain, wDNew, sSetK, modK, dicOf, wDGetB, wDGet, dicD, wDInB, wDGet2B, sAugK, keyD, wOfK, wOfKB, fCopy, fKeys, fSorted, wSortL, wDc, wKeys, wItems, wVals, sForL, noEx, eqK, neK, eqT, neT, ltT, wRng3, kD, N_digits]
    refine ⟨trivial, rfl, (r, g), rfl, rfl, trivial, fun d hd => ?_⟩
    subst hd
    have lg : g < 1000 := by
      have h3 : (2 : Int) ^ g ≤ b * 2 ^ g := by
        have : (1 : Int) * 2 ^ g ≤ b * 2 ^ g := Int.mul_le_mul_of_nonneg_right (by omega) (Int.le_of_lt (Int.pow_pos (by decide)))
        omega
      have h4 : (2 : Int) ^ g < 2 ^ 1000 := by omega
      have h5 : (2 : Nat) ^ g < 2 ^ 1000 := by exact_mod_cast h4
      exact (Nat.pow_lt_pow_iff_right (by decide)).mp h5
    refine ⟨.int (r.at g).2, rfl, mulOk_r (by omega), _, rfl, by rw [List.length_map]; show acc.length < 16777216; omega, ?_⟩
    refine ⟨(bakesR (r.at g) b).toNat, ?_, g + 1, bakesR (r.at g) b, acc ++ [b - bakesR (r.at g) b * (r.at g).2], .v (.int (bakesR (r.at g) b)), ?_, ?_, rfl, bakesR_nn _ _, by simp [hg], ?_, ?_⟩
    · have := bakesR_lt ok hp; omega
    · simp
    · trivial
    · have h6 := bakesR_half ok (n := b) (by omega)
      rw [Int.pow_succ, Int.mul_comm (2 ^ g) 2, ← Int.mul_assoc]
      have : bakesR (r.at g) b * 2 * 2 ^ g ≤ b * 2 ^ g := Int.mul_le_mul_of_nonneg_right h6 (Int.le_of_lt (Int.pow_pos (by decide)))
      omega
    · rw [← he, digsR_pos r g hp, List.append_assoc]; rfl
  · have hz : b = 0 := by simpa using h
    subst hz
    rw [digsR_zero r g (Int.le_refl 0), List.append_nil] at he
    subst he
    exact ⟨trivial, k _ rfl⟩

theorem cal_digits {f : Addr} {fd : FuncData} (F : Fun K "digits" "digits" s_digits f fd) (hm : mg "digits" = some (.ref f)) (B : Bl K mg C A_Weights) (R_Rule : RuleS K mg C) (R_Weights : WeightsS K mg A_Weights) (E_SiltError : ErrS K mg "SiltError" X_SiltError) (E_BadDay : ErrS K mg "BadDay" X_BadDay) (E_BadWeights : ErrS K mg "BadWeights" X_BadWeights) (C_Rule___getitem__ : CalG P w K mg base C 2 P_Rule___getitem__ (sp_Rule___getitem__ C)) (C_need_rule : Cal P w K mg base 1 "need_rule" P_need_rule (sp_need_rule C)) (C_need_number : CalD P w K mg base 2 "need_number" P_need_number sp_need_number [.int 0]) (C_times_baked : Cal P w K mg base 1 "times_baked" P_times_baked sp_times_baked) : Cal P w K mg base 6 "digits" P_digits (sp_digits C) :=
  ⟨⟨f, fd, ok_digits F B R_Rule R_Weights E_SiltError E_BadDay E_BadWeights C_Rule___getitem__ C_need_rule C_need_number C_times_baked, hm, F.kp, F.binds (ps := P_digits) fun _ _ _ _ _ _ us hl => match us, hl with | [_, _], _ => rfl⟩, mono_spFO⟩
end L53
set_option Elab.async false
set_option linter.all false
set_option maxRecDepth 100000
set_option maxHeartbeats 0
namespace L53
open PySem L2 DL
variable {P : Program} {w : World} {K : PySem.W.Frag} {mg : Str → Option Value} {base : Heap} {C A_Weights X_SiltError X_BadDay X_BadWeights : Addr}

def madeR (r : Ru) : Nat → Int → Int
  | 0, n => n
  | g + 1, n => bakesR (r.at g) (madeR r g n)
theorem bakesR_zero {p : Int × Int} (h : PairV p) : bakesR p 0 = 0 := by
  have := bakesR_half h (n := 0) (Int.le_refl 0)
  have := bakesR_nn p 0
  omega
theorem madeR_nn (r : Ru) : ∀ (g : Nat) {n : Int}, 0 ≤ n → 0 ≤ madeR r g n
  | 0, n, h => h
  | g + 1, n, h => bakesR_nn _ _
theorem madeR_zero (r : Ru) {i : Nat} {n : Int} (h : madeR r i n = 0) : ∀ j, i ≤ j → madeR r j n = 0 := by
  intro j hj
  induction j with
  | zero => have : i = 0 := by omega
            subst this; exact h
  | succ j ih =>
    by_cases e : i = j + 1
    · subst e; exact h
    · show bakesR (r.at j) (madeR r j n) = 0
      rw [ih (by omega), bakesR_zero (r.at_ok j)]
theorem madeR_le (r : Ru) : ∀ (g : Nat) {n : Int}, 0 ≤ n → madeR r g n ≤ n
  | 0, n, h => Int.le_refl _
  | g + 1, n, h => by
    have h1 := madeR_le r g h
    have h2 := bakesR_half (r.at_ok g) (madeR_nn r g h)
    have h3 := madeR_nn r g h
    show bakesR (r.at g) (madeR r g n) ≤ n
    omega


def sp_made (C : Addr) : SpD := spF 3 (fun (a : Ru × Nat × Int) => [ruleD C a.1, .int a.2.1, .int a.2.2]) (fun a => 0 ≤ a.2.2) (fun a d => d = .int (madeR a.1 a.2.1 a.2.2))

abbrev s_made : Stmt := top 30
def N_made : List Str := ["rule", "grade", "day", "lesser", "many"]
def P_made : List Str := ["rule", "grade", "day"]
theorem sc_made : FnScope N_made P_made (defScope s_made) := ⟨rfl, rfl, rfl, by decide +kernel, rfl, by decide +kernel, by decide +kernel⟩
theorem ok_made {f : Addr} {fd : FuncData} (F : Fun K "made" "made" s_made f fd) (B : Bl K mg C A_Weights) (R_Rule : RuleS K mg C) (R_Weights : WeightsS K mg A_Weights) (E_SiltError : ErrS K mg "SiltError" X_SiltError) (E_BadDay : ErrS K mg "BadDay" X_BadDay) (E_BadWeights : ErrS K mg "BadWeights" X_BadWeights) (C_Rule___getitem__ : CalG P w K mg base C 2 P_Rule___getitem__ (sp_Rule___getitem__ C)) (C_need_rule : Cal P w K mg base 1 "need_rule" P_need_rule (sp_need_rule C)) (C_need_number : CalD P w K mg base 2 "need_number" P_need_number sp_need_number [.int 0]) (C_times_baked : Cal P w K mg base 1 "times_baked" P_times_baked sp_times_baked) : FnOk P w K mg base (L2.CX P w) 6 f fd P_made (spOf K (sp_made C)) := by
  refine fn_ok F sc_made len_spF (io := []) io_spF (fun cdv A outer sh H E hr =>
 (db_cons (ds_expr (de_c C_need_rule (hr.mono (by decide)) (by rfl) (takes_of rfl rfl rfl rfl) (dr_v (de_var 0 (pv 0)) dr_nil)))
 (db_cons (ds_expr (de_cd C_need_number (hr.mono (by decide)) (by rfl) (takes_of rfl rfl rfl rfl) (dr_v (de_var 1 (pv 1)) dr_nil)))
 (db_cons (ds_expr (de_cd C_need_number (hr.mono (by decide)) (by rfl) (takes_of rfl rfl rfl rfl) (dr_v (de_var 2 (pv 2)) dr_nil)))
 (db_cons (ds_par (i := 3) (j := 4) rfl sc_made.nd (by rfl) (by rfl) (by decide) (show (_ : Nat) ∉ ([] : List Nat) by decide) (show (_ : Nat) ∉ ([] : List Nat) by decide) (by rfl) (by rfl) (dn_v de_int (dn_v (de_var 2 (pv 2)) dn_nil)))
 (db_cons (ds_while (passes_of rfl) (dw_and (dt_tru (de_var 4 (pv 4)) (fun _ => rfl)) (dw_and1 (dt_cmp op_lt (ops_I0 fun _ _ _ => .bl _) (de_var 3 (pv 3)) (de_var 1 (pv 1)) (nomark _)))).dt (db_cons (ds_set (i := 4) (show (_ : Nat) ∉ ([] : List Nat) by decide) sc_made.nd (by rfl) (.inl rfl) (de_c C_times_baked (hr.mono (by decide)) (by rfl) (takes_of rfl rfl rfl rfl) (dr_v (de_g C_Rule___getitem__ (de_var 0 (pv 0)) (de_var 3 (pv 3)) (hr.mono (by decide)) (takes_of rfl rfl rfl rfl)) (dr_v (de_var 4 (pv 4)) dr_nil))))
 (db_one (ds_aug (i := 3) (show (_ : Nat) ∉ ([] : List Nat) by decide) sc_made.nd (by rfl) (.inl rfl) iop_add iadd_s de_int))))
 (db_one (ds_ret (de_var 4 (pv 4)))))))))) ?_

  rintro ins Q R ⟨⟨r, g, n⟩, rfl, l, h1, k⟩
  dsimp only [sSeq, sIf, sSet, sSetO, sRet, sRetO, sNext, sExpr, wTest, w1, w2, wVar, valOf, Env.at, Env.put, wOD, wLst, wTup, waNil, waCons, waStar, wC, wCall, wCallB, wIf, DL.wTru, truD, wAnd, wOr, DL.wNot, wAndV, wOrV, wNotV, List.map, List.length, List.replicate, List.replicate_succ, List.replicate_zero, DL.putK, OD.toD, o2I, o2I0, addD, mulD, ixD, lenL, lenD, intL, absL, maxL, minL, divmodL, tupleL, blOf, intOf, lstD, tupD, seqOf, outOf, List.tail, Nat.reduceAdd, Nat.reduceSub, wrNil, wrV, wrO, wCallR, wCallRO, takeA, takeK, backA, isOwn, Sl.asD, Sl.asO, spK, noInsO, sAugIx, modL, wIxB, lstOf, wTruB, bor, sExtO, wRep, wSl, wSlB, wCat, wListOf, wpNone, wpSome, DL.isScal, sFor, wRng1, wRng2, gN, gTupD, gConsD, gNilD, sAsg, sPar, parK, wnNil, wnV, wnO, sRetN, ownL, wIsi, isiL, isiD, eqD, neD, wComp, sAug, wGet, isC, wFld, fldD, wMeth, insD, madeK, wrDef, wMut, sRetB, List.nil_append, List.cons_append, DL.D.ty, seqD, gFld, modI, wEnum, wRev1, sumL, allL, anyL, sFreeze, frK, wIter, wIterT, wMake, wBm, idxL, sTry, exmD, sRaise, wEqO, wChain, wDNew, sSetK, modK, dicOf, wDGetB, wDGet, dicD, wDInB, wDGet2B, sAugK, keyD, wOfK, wOfKB, fCopy, fKeys, fSorted, wSortL, wDc, wKeys, wItems, wVals, sForL, noEx, eqK, neK, eqT, neT, ltT, wRng3, kD, N_made] at h1 k ⊢
  refine ⟨r, rfl, rfl, trivial, fun d hd => ?_⟩
  subst hd
  refine ⟨((g : Int), 0), rfl, rfl, Int.natCast_nonneg g, fun d hd => ?_⟩
  subst hd
  refine ⟨(n, 0), rfl, rfl, h1, fun d hd => ?_⟩
  subst hd
  refine ⟨rfl, ?_⟩
  refine ⟨fun m ρ => ∃ (i : Nat), ρ = [.v (ruleD C r), .v (.int g), .v (.int n), .v (.int i), .v (.int (madeR r i n))] ∧ i ≤ g ∧ m = g - i,
    ⟨_, 0, rfl, Nat.zero_le _, rfl⟩, fun m ρ hI => ?_⟩
  obtain ⟨i, rfl, hi, rfl⟩ := hI
  dsimp only [sSeq, sIf, sSet, sSetO, sRet, sRetO, sNext, sExpr, wTest, w1, w2, wVar, valOf, Env.at, Env.put, wOD, wLst, wTup, waNil, waCons, waStar, wC, wCall, wCallB, wIf, DL.wTru, truD, wAnd, wOr, DL.wNot, wAndV, wOrV, wNotV, List.map, List.length, List.replicate, List.replicate_succ, List.replicate_zero, DL.putK, OD.toD, o2I, o2I0, addD, mulD, ixD, lenL, lenD, intL, absL, maxL, minL, divmodL, tupleL, blOf, intOf, lstD, tupD, seqOf, outOf, List.tail, Nat.reduceAdd, Nat.reduceSub, wrNil, wrV, wrO, wCallR, wCallRO, takeA, takeK, backA, isOwn, Sl.asD, Sl.asO, spK, noInsO, sAugIx, modL, wIxB, lstOf, wTruB, bor, sExtO, wRep, wSl, wSlB, wCat, wListOf, wpNone, wpSome, DL.isScal, sFor, wRng1, wRng2, gN, gTupD, gConsD, gNilD, sAsg, sPar, parK, wnNil, wnV, wnO, sRetN, ownL, wIsi, isiL, isiD, eqD, neD, wComp, sAug, wGet, isC, wFld, fldD, wMeth, insD, madeK, wrDef, wMut, sRetB, List.nil_append, List.cons_append, DL.D.ty, seqD, gFld, modI, wEnum, wRev1, sumL, allL, anyL, sFreeze, frK, wIter, wIterT, wMake, wBm, idxL, sTry, exmD, sRaise, wEqO, wChain, wDNew, sSetK, modK, dicOf, wDGetB, wDGet, dicD, wDInB, wDGet2B, sAugK, keyD, wOfK, wOfKB, fCopy, fKeys, fSorted, wSortL, wDc, wKeys, wItems, wVals, sForL, noEx, eqK, neK, eqT, neT, ltT, wRng3, kD, N_made]
  refine ⟨fun h => ⟨fun h2 => ?_, fun h2 => ?_⟩, fun h => ⟨fun z => by (cases z), fun _ => ?_⟩⟩
  · have h2 : (i : Int) < g := by simpa using h2
    refine ⟨rfl, (r, i), rfl, rfl, trivial, fun d hd => ?_⟩
    subst hd
    refine ⟨((r.at i), madeR r i n), rfl, rfl, r.at_ok i, fun d hd => ?_⟩
    subst hd
    exact ⟨g - (i + 1), by omega, i + 1, rfl, by omega, rfl⟩
  · have h2 : ¬ (i : Int) < g := by simpa using h2
    have : i = g := by omega
    subst this
    exact ⟨trivial, k _ rfl⟩
  · have h3 : madeR r i n = 0 := by simpa using h
    have h4 := madeR_zero r h3 g hi
    rw [h3]
    exact ⟨trivial, k _ (by rw [h4])⟩

theorem cal_made {f : Addr} {fd : FuncData} (F : Fun K "made" "made" s_made f fd) (hm : mg "made" = some (.ref f)) (B : Bl K mg C A_Weights) (R_Rule : RuleS K mg C) (R_Weights : WeightsS K mg A_Weights) (E_SiltError : ErrS K mg "SiltError" X_SiltError) (E_BadDay : ErrS K mg "BadDay" X_BadDay) (E_BadWeights : ErrS K mg "BadWeights" X_BadWeights) (C_Rule___getitem__ : CalG P w K mg base C 2 P_Rule___getitem__ (sp_Rule___getitem__ C)) (C_need_rule : Cal P w K mg base 1 "need_rule" P_need_rule (sp_need_rule C)) (C_need_number : CalD P w K mg base 2 "need_number" P_need_number sp_need_number [.int 0]) (C_times_baked : Cal P w K mg base 1 "times_baked" P_times_baked sp_times_baked) : Cal P w K mg base 6 "made" P_made (sp_made C) :=
  ⟨⟨f, fd, ok_made F B R_Rule R_Weights E_SiltError E_BadDay E_BadWeights C_Rule___getitem__ C_need_rule C_need_number C_times_baked, hm, F.kp, F.binds (ps := P_made) fun _ _ _ _ _ _ us hl => match us, hl with | [_, _, _], _ => rfl⟩, mono_spF⟩

theorem mulOk_big {i j : Int} {a b : Nat} (hi : i.natAbs < 2 ^ a) (hj : j.natAbs < 2 ^ b) (h : a + b < 900000) : MulOk i j := by
  refine .inr ?_
  show i.natAbs.log2 + j.natAbs.log2 < 1000000
  have l1 : i.natAbs.log2 ≤ a := by
    by_cases z : i.natAbs = 0
    · rw [z]; simp
    · exact Nat.le_of_lt ((Nat.log2_lt z).mpr hi)
  have l2 : j.natAbs.log2 ≤ b := by
    by_cases z : j.natAbs = 0
    · rw [z]; simp
    · exact Nat.le_of_lt ((Nat.log2_lt z).mpr hj)
  omega
theorem sizeR_pos (r : Ru) : ∀ g, 0 < sizeR r g
  | 0 => by show (0 : Int) < 1; decide
  | g + 1 => Int.mul_pos (sizeR_pos r g) (by have := (r.at_ok g).lo; omega)
theorem sizeR_lt (r : Ru) : ∀ g, sizeR r g < 2 ^ (4 * g + 1)
  | 0 => by show (1 : Int) < 2 ^ (4 * 0 + 1); decide
  | g + 1 => by
    have h1 := sizeR_lt r g
    have h2 := (r.at_ok g).le; have h3 := (r.at_ok g).hi; have h4 := sizeR_pos r g
    show sizeR r g * (r.at g).2 < _
    have e : (2 : Int) ^ (4 * (g + 1) + 1) = 2 ^ (4 * g + 1) * 16 := by
      rw [show 4 * (g + 1) + 1 = (4 * g + 1) + 4 by omega, Int.pow_add]; rfl
    rw [e]
    have : sizeR r g * (r.at g).2 ≤ sizeR r g * 16 := Int.mul_le_mul_of_nonneg_left (by omega) (Int.le_of_lt h4)
    omega
def dayMadeR (r : Ru) (g : Nat) (n : Int) : Int := if n = 0 then 0 else owedR r g + n * sizeR r g


def sp_day_made (C : Addr) : SpD := spF 3 (fun (a : Ru × Nat × Int) => [ruleD C a.1, .int a.2.1, .int a.2.2]) (fun a => 0 ≤ a.2.2 ∧ a.2.2 < 2 ^ 2000 ∧ a.2.1 < 100000) (fun a d => d = .int (dayMadeR a.1 a.2.1 a.2.2))

abbrev s_day_made : Stmt := top 31
def N_day_made : List Str := ["rule", "grade", "many"]
def P_day_made : List Str := ["rule", "grade", "many"]
theorem sc_day_made : FnScope N_day_made P_day_made (defScope s_day_made) := ⟨rfl, rfl, rfl, by decide +kernel, rfl, by decide +kernel, by decide +kernel⟩
theorem ok_day_made {f : Addr} {fd : FuncData} (F : Fun K "day_made" "day_made" s_day_made f fd) (B : Bl K mg C A_Weights) (R_Rule : RuleS K mg C) (R_Weights : WeightsS K mg A_Weights) (E_SiltError : ErrS K mg "SiltError" X_SiltError) (E_BadDay : ErrS K mg "BadDay" X_BadDay) (E_BadWeights : ErrS K mg "BadWeights" X_BadWeights) (C_Rule_owed : CalM P w K mg base C 4 "owed" P_Rule_owed (sp_Rule_owed C)) (C_Rule_size : CalM P w K mg base C 4 "size" P_Rule_size (sp_Rule_size C)) (C_need_rule : Cal P w K mg base 1 "need_rule" P_need_rule (sp_need_rule C)) (C_need_number : CalD P w K mg base 2 "need_number" P_need_number sp_need_number [.int 0]) : FnOk P w K mg base (L2.CX P w) 6 f fd P_day_made (spOf K (sp_day_made C)) := by
  refine fn_ok F sc_day_made len_spF (io := []) io_spF (fun cdv A outer sh H E hr =>
 (db_cons (ds_expr (de_c C_need_rule (hr.mono (by decide)) (by rfl) (takes_of rfl rfl rfl rfl) (dr_v (de_var 0 (pv 0)) dr_nil)))
 (db_cons (ds_expr (de_cd C_need_number (hr.mono (by decide)) (by rfl) (takes_of rfl rfl rfl rfl) (dr_v (de_var 1 (pv 1)) dr_nil)))
 (db_cons (ds_expr (de_cd C_need_number (hr.mono (by decide)) (by rfl) (takes_of rfl rfl rfl rfl) (dr_v (de_var 2 (pv 2)) dr_nil)))
 (db_cons (ds_if (dt_cmp (op_eqD (u64_of hr)) eq_s (de_var 2 (pv 2)) de_int (nomark _)) (db_one (ds_ret de_int)) db_nil)
 (db_one (ds_ret (de_add (de_m C_Rule_owed R_Rule.cl (de_var 0 (pv 0)) (hr.mono (by decide)) (takes_of rfl rfl rfl rfl) (dr_v (de_var 1 (pv 1)) dr_nil)) (de_mul (de_var 2 (pv 2)) (de_m C_Rule_size R_Rule.cl (de_var 0 (pv 0)) (hr.mono (by decide)) (takes_of rfl rfl rfl rfl) (dr_v (de_var 1 (pv 1)) dr_nil))))))))))) ?_

  rintro ins Q R ⟨⟨r, g, n⟩, rfl, l, ⟨h1, h2, h3⟩, k⟩
  dsimp only [sSeq, sIf, sSet, sSetO, sRet, sRetO, sNext, sExpr, wTest, w1, w2, wVar, valOf, Env.at, Env.put, wOD, wLst, wTup, waNil, waCons, waStar, wC, wCall, wCallB, wIf, DL.wTru, truD, wAnd, wOr, DL.wNot, wAndV, wOrV, wNotV, List.map, List.length, List.replicate, List.replicate_succ, List.replicate_zero, DL.putK, OD.toD, o2I, o2I0, addD, mulD, ixD, lenL, lenD, intL, absL, maxL, minL, divmodL, tupleL, blOf, intOf, lstD, tupD, seqOf, outOf, List.tail, Nat.reduceAdd, Nat.reduceSub, wrNil, wrV, wrO, wCallR, wCallRO, takeA, takeK, backA, isOwn, Sl.asD, Sl.asO, spK, noInsO, sAugIx, modL, wIxB, lstOf, wTruB, bor, sExtO, wRep, wSl, wSlB, wCat, wListOf, wpNone, wpSome, DL.isScal, sFor, wRng1, wRng2, gN, gTupD, gConsD, gNilD, sAsg, sPar, parK, wnNil, wnV, wnO, sRetN, ownL, wIsi, isiL, isiD, eqD, neD, wComp, sAug, wGet, isC, wFld, fldD, wMeth, insD, madeK, wrDef, wMut, sRetB, List.nil_append, List.cons_append, DL.D.ty, seqD, gFld, modI, wEnum, wRev1, sumL, allL, anyL, sFreeze, frK, wIter, wIterT, wMake, wBm, idxL, sTry, exmD, sRaise, wEqO, wChain, wDNew, sSetK, modK, dicOf, wDGetB, wDGet, dicD, wDInB, wDGet2B, sAugK, keyD, wOfK, wOfKB, fCopy, fKeys, fSorted, wSortL, wDc, wKeys, wItems, wVals, sForL, noEx, eqK, neK, eqT, neT, ltT, wRng3, kD, N_day_made] at h1 h2 h3 k ⊢
  refine ⟨r, rfl, rfl, trivial, fun d hd => ?_⟩
  subst hd
  refine ⟨((g : Int), 0), rfl, rfl, Int.natCast_nonneg g, fun d hd => ?_⟩
  subst hd
  refine ⟨(n, 0), rfl, rfl, h1, fun d hd => ?_⟩
  subst hd
  refine ⟨(Cmp.int _).ok, (Cmp.int _).ok, fun h => ?_, fun h => ?_⟩
  · have h : n = 0 := by simpa [D.eqv, D.pd, PyData.eqv] using h
    exact ⟨trivial, k _ (by rw [dayMadeR, if_pos h])⟩
  · have h : ¬ n = 0 := by simpa [D.eqv, D.pd, PyData.eqv] using h
    refine ⟨⟨rfl, rfl⟩, (r, g), rfl, rfl, by omega, fun d hd => ?_⟩
    subst hd
    refine ⟨⟨rfl, rfl⟩, (r, g), rfl, rfl, by omega, fun d hd => ?_⟩
    subst hd
    refine ⟨mulOk_big (a := 2000) (b := 4 * g + 1) ?_ ?_ (by omega), trivial, k _ (by rw [dayMadeR, if_neg h])⟩
    · have : (n.natAbs : Int) < 2 ^ 2000 := by omega
      exact_mod_cast this
    · have h4 := sizeR_lt r g; have h5 := sizeR_pos r g
      have : ((sizeR r g).natAbs : Int) < 2 ^ (4 * g + 1) := by omega
      exact_mod_cast this

theorem cal_day_made {f : Addr} {fd : FuncData} (F : Fun K "day_made" "day_made" s_day_made f fd) (hm : mg "day_made" = some (.ref f)) (B : Bl K mg C A_Weights) (R_Rule : RuleS K mg C) (R_Weights : WeightsS K mg A_Weights) (E_SiltError : ErrS K mg "SiltError" X_SiltError) (E_BadDay : ErrS K mg "BadDay" X_BadDay) (E_BadWeights : ErrS K mg "BadWeights" X_BadWeights) (C_Rule_owed : CalM P w K mg base C 4 "owed" P_Rule_owed (sp_Rule_owed C)) (C_Rule_size : CalM P w K mg base C 4 "size" P_Rule_size (sp_Rule_size C)) (C_need_rule : Cal P w K mg base 1 "need_rule" P_need_rule (sp_need_rule C)) (C_need_number : CalD P w K mg base 2 "need_number" P_need_number sp_need_number [.int 0]) : Cal P w K mg base 6 "day_made" P_day_made (sp_day_made C) :=
  ⟨⟨f, fd, ok_day_made F B R_Rule R_Weights E_SiltError E_BadDay E_BadWeights C_Rule_owed C_Rule_size C_need_rule C_need_number, hm, F.kp, F.binds (ps := P_day_made) fun _ _ _ _ _ _ us hl => match us, hl with | [_, _, _], _ => rfl⟩, mono_spF⟩

def sp_next_baked (C : Addr) : SpD := spF 3 (fun (a : Ru × Nat × Int) => [ruleD C a.1, .int a.2.1, .int a.2.2]) (fun a => 0 ≤ a.2.2 ∧ a.2.2 < 2 ^ 1000 ∧ a.2.1 < 90000) (fun a d => d = .int (dayMadeR a.1 (a.2.1 + 1) (madeR a.1 (a.2.1 + 1) a.2.2 + 1)))

abbrev s_next_baked : Stmt := top 33
def N_next_baked : List Str := ["rule", "grade", "day"]
def P_next_baked : List Str := ["rule", "grade", "day"]
theorem sc_next_baked : FnScope N_next_baked P_next_baked (defScope s_next_baked) := ⟨rfl, rfl, rfl, by decide +kernel, rfl, by decide +kernel, by decide +kernel⟩
theorem ok_next_baked {f : Addr} {fd : FuncData} (F : Fun K "next_baked" "next_baked" s_next_baked f fd) (B : Bl K mg C A_Weights) (R_Rule : RuleS K mg C) (R_Weights : WeightsS K mg A_Weights) (E_SiltError : ErrS K mg "SiltError" X_SiltError) (E_BadDay : ErrS K mg "BadDay" X_BadDay) (E_BadWeights : ErrS K mg "BadWeights" X_BadWeights) (C_made : Cal P w K mg base 6 "made" P_made (sp_made C)) (C_day_made : Cal P w K mg base 6 "day_made" P_day_made (sp_day_made C)) (C_need_rule : Cal P w K mg base 1 "need_rule" P_need_rule (sp_need_rule C)) (C_need_number : CalD P w K mg base 2 "need_number" P_need_number sp_need_number [.int 0]) : FnOk P w K mg base (L2.CX P w) 8 f fd P_next_baked (spOf K (sp_next_baked C)) := by
  refine fn_ok F sc_next_baked len_spF (io := []) io_spF (fun cdv A outer sh H E hr =>
 (db_cons (ds_expr (de_c C_need_rule (hr.mono (by decide)) (by rfl) (takes_of rfl rfl rfl rfl) (dr_v (de_var 0 (pv 0)) dr_nil)))
 (db_cons (ds_expr (de_cd C_need_number (hr.mono (by decide)) (by rfl) (takes_of rfl rfl rfl rfl) (dr_v (de_var 1 (pv 1)) dr_nil)))
 (db_one (ds_ret (de_c C_day_made (hr.mono (by decide)) (by rfl) (takes_of rfl rfl rfl rfl) (dr_v (de_var 0 (pv 0)) (dr_v (de_add (de_var 1 (pv 1)) de_int) (dr_v (de_add (de_c C_made (hr.mono (by decide)) (by rfl) (takes_of rfl rfl rfl rfl) (dr_v (de_var 0 (pv 0)) (dr_v (de_add (de_var 1 (pv 1)) de_int) (dr_v (de_var 2 (pv 2)) dr_nil)))) de_int) dr_nil))))))))) ?_

  rintro ins Q R ⟨⟨r, g, n⟩, rfl, l, ⟨h1, h2, h3⟩, k⟩
  dsimp only [sSeq, sIf, sSet, sSetO, sRet, sRetO, sNext, sExpr, wTest, w1, w2, wVar, valOf, Env.at, Env.put, wOD, wLst, wTup, waNil, waCons, waStar, wC, wCall, wCallB, wIf, DL.wTru, truD, wAnd, wOr, DL.wNot, wAndV, wOrV, wNotV, List.map, List.length, List.replicate, List.replicate_succ, List.replicate_zero, DL.putK, OD.toD, o2I, o2I0, addD, mulD, ixD, lenL, lenD, intL, absL, maxL, minL, divmodL, tupleL, blOf, intOf, lstD, tupD, seqOf, outOf, List.tail, Nat.reduceAdd, Nat.reduceSub, wrNil, wrV, wrO, wCallR, wCallRO, takeA, takeK, backA, isOwn, Sl.asD, Sl.asO, spK, noInsO, sAugIx, modL, wIxB, lstOf, wTruB, bor, sExtO, wRep, wSl, wSlB, wCat, wListOf, wpNone, wpSome, DL.isScal, sFor, wRng1, wRng2, gN, gTupD, gConsD, gNilD, sAsg, sPar, parK, wnNil, wnV, wnO, sRetN, ownL, wIsi, isiL, isiD, eqD, neD, wComp, sAug, wGet, isC, wFld, fldD, wMeth, insD, madeK, wrDef, wMut, sRetB, List.nil_append, List.cons_append, DL.D.ty, seqD, gFld, modI, wEnum, wRev1, sumL, allL, anyL, sFreeze, frK, wIter, wIterT, wMake, wBm, idxL, sTry, exmD, sRaise, wEqO, wChain, wDNew, sSetK, modK, dicOf, wDGetB, wDGet, dicD, wDInB, wDGet2B, sAugK, keyD, wOfK, wOfKB, fCopy, fKeys, fSorted, wSortL, wDc, wKeys, wItems, wVals, sForL, noEx, eqK, neK, eqT, neT, ltT, wRng3, kD, N_next_baked] at h1 h2 h3 k ⊢
  refine ⟨r, rfl, rfl, trivial, fun d hd => ?_⟩
  subst hd
  refine ⟨((g : Int), 0), rfl, rfl, Int.natCast_nonneg g, fun d hd => ?_⟩
  subst hd
  refine ⟨(r, g + 1, n), rfl, rfl, h1, fun d hd => ?_⟩
  subst hd
  have h4 := madeR_nn r (g + 1) h1; have h5 := madeR_le r (g + 1) h1
  have h6 : (2 : Int) ^ 1000 + 1 ≤ 2 ^ 2000 := by decide +kernel
  refine ⟨(r, g + 1, madeR r (g + 1) n + 1), rfl, rfl, ⟨by dsimp only; omega, by dsimp only; omega, by dsimp only; omega⟩, fun d hd => ?_⟩
  subst hd
  exact ⟨trivial, k _ rfl⟩

theorem cal_next_baked {f : Addr} {fd : FuncData} (F : Fun K "next_baked" "next_baked" s_next_baked f fd) (hm : mg "next_baked" = some (.ref f)) (B : Bl K mg C A_Weights) (R_Rule : RuleS K mg C) (R_Weights : WeightsS K mg A_Weights) (E_SiltError : ErrS K mg "SiltError" X_SiltError) (E_BadDay : ErrS K mg "BadDay" X_BadDay) (E_BadWeights : ErrS K mg "BadWeights" X_BadWeights) (C_made : Cal P w K mg base 6 "made" P_made (sp_made C)) (C_day_made : Cal P w K mg base 6 "day_made" P_day_made (sp_day_made C)) (C_need_rule : Cal P w K mg base 1 "need_rule" P_need_rule (sp_need_rule C)) (C_need_number : CalD P w K mg base 2 "need_number" P_need_number sp_need_number [.int 0]) : Cal P w K mg base 8 "next_baked" P_next_baked (sp_next_baked C) :=
  ⟨⟨f, fd, ok_next_baked F B R_Rule R_Weights E_SiltError E_BadDay E_BadWeights C_made C_day_made C_need_rule C_need_number, hm, F.kp, F.binds (ps := P_next_baked) fun _ _ _ _ _ _ us hl => match us, hl with | [_, _, _], _ => rfl⟩, mono_spF⟩
end L53
set_option Elab.async false
set_option linter.all false
set_option maxRecDepth 100000
set_option maxHeartbeats 0
namespace L53
open PySem L2 DL
variable {P : Program} {w : World} {K : PySem.W.Frag} {mg : Str → Option Value} {base : Heap} {C A_Weights X_SiltError X_BadDay X_BadWeights : Addr}

def prsD (xs : List (Int × Int)) : D := .lst (xs.map pairD)
theorem eqv_prs (xs ys : List (Int × Int)) : D.eqv (.lst (xs.map pairD)) (.lst (ys.map pairD)) = decide (xs = ys) := by
  unfold D.eqv
  rw [D.pd, D.pd, PyData.eqv, eqvAll_iff pairD eqv_pair]
theorem cmp_prs (xs : List (Int × Int)) : Cmp 2 (.lst (xs.map pairD)) := .lst fun d hd => by
  obtain ⟨p, _, rfl⟩ := List.mem_map.mp hd
  exact cmp_pair p


def sp_is_part : SpD := spF 1 (fun (a : Bool × List D) => [seqD a.1 a.2]) (fun _ => True) (fun a d => d = .bl (decide ((a.2.length : Int) ≤ 6)))

abbrev s_is_part : Stmt := top 19
def N_is_part : List Str := ["part"]
def P_is_part : List Str := ["part"]
theorem sc_is_part : FnScope N_is_part P_is_part (defScope s_is_part) := ⟨rfl, rfl, rfl, by decide +kernel, rfl, by decide +kernel, by decide +kernel⟩
theorem ok_is_part {f : Addr} {fd : FuncData} (F : Fun K "is_part" "is_part" s_is_part f fd) (B : Bl K mg C A_Weights) (R_Rule : RuleS K mg C) (R_Weights : WeightsS K mg A_Weights) (E_SiltError : ErrS K mg "SiltError" X_SiltError) (E_BadDay : ErrS K mg "BadDay" X_BadDay) (E_BadWeights : ErrS K mg "BadWeights" X_BadWeights)  : FnOk P w K mg base (L2.CX P w) 1 f fd P_is_part (spOf K sp_is_part) := by
  refine fn_ok F sc_is_part len_spF (io := []) io_spF (fun cdv A outer sh H E hr =>
 (db_one (ds_ret (de_and (de_isiT (cs := [.ty "list", .ty "tuple"]) (by rfl) B.isinstance (de_var 0 (pv 0)) (pa_cons (pe_bltn (v := .ty "list") (by rfl) B.list (by rfl) rfl) (pa_cons (pe_bltn (v := .ty "tuple") (by rfl) B.tuple (by rfl) rfl) pa_nil)) (.cons (.ty "list") (.cons (.ty "tuple") .nil)) (by decide) B.isc B.tn B.k_list_tuple) (de_one (de_cmp op_le (ops_I0 fun _ _ _ => .bl _) (de_callB call_len len_s (by rfl) B.len (by rfl) (da_cons (de_var 0 (pv 0)) da_nil)) (de_gint (by rfl) B.MOST) (nomark _))))))) ?_

  rintro ins Q R ⟨⟨b, xs⟩, rfl, l, -, k⟩
  cases b
  all_goals
    dsimp only [sSeq, sIf, sSet, sSetO, sRet, sRetO, sNext, sExpr, wTest, w1, w2, wVar, valOf, Env.at, Env.put, wOD, wLst, wTup, waNil, waCons, waStar, wC, wCall, wCallB, wIf, DL.wTru, truD, wAnd, wOr, DL.wNot, wAndV, wOrV, wNotV, List.map, List.length, List.replicate, List.replicate_succ, List.replicate_zero, DL.putK, OD.toD, o2I, o2I0, addD, mulD, ixD, lenL, lenD, intL, absL, maxL, minL, divmodL, tupleL, blOf, intOf, lstD, tupD, seqOf, outOf, List.tail, Nat.reduceAdd, Nat.reduceSub, wrNil, wrV, wrO, wCallR, wCallRO, takeA, takeK, backA, isOwn, Sl.asD, Sl.asO, spK, noInsO, sAugIx, modL, wIxB, lstOf, wTruB, bor, sExtO, wRep, wSl, wSlB, wCat, wListOf, wpNone, wpSome, DL.isScal, sFor, wRng1, wRng2, gN, gTupD, gConsD, gNilD, sAsg, sPar, parK, wnNil, wnV, wnO, sRetN, ownL, wIsi, isiL, isiD, eqD, neD, wComp, sAug, wGet, isC, wFld, fldD, wMeth, insD, madeK, wrDef, wMut, sRetB, List.nil_append, List.cons_append, DL.D.ty, seqD, gFld, modI, wEnum, wRev1, sumL, allL, anyL, sFreeze, frK, wIter, wIterT, wMake, wBm, idxL, sTry, exmD, sRaise, wEqO, wChain, wDNew, sSetK, modK, dicOf, wDGetB, wDGet, dicD, wDInB, wDGet2B, sAugK, keyD, wOfK, wOfKB, fCopy, fKeys, fSorted, wSortL, wDc, wKeys, wItems, wVals, sForL, noEx, eqK, neK, eqT, neT, ltT, wRng3, kD, N_is_part] at k ⊢
    refine ⟨by simp [tys], fun _ => ⟨fun _ => ⟨trivial, k _ rfl⟩, fun z => by (cases z)⟩, fun z => (z (by simp)).elim⟩

theorem cal_is_part {f : Addr} {fd : FuncData} (F : Fun K "is_part" "is_part" s_is_part f fd) (hm : mg "is_part" = some (.ref f)) (B : Bl K mg C A_Weights) (R_Rule : RuleS K mg C) (R_Weights : WeightsS K mg A_Weights) (E_SiltError : ErrS K mg "SiltError" X_SiltError) (E_BadDay : ErrS K mg "BadDay" X_BadDay) (E_BadWeights : ErrS K mg "BadWeights" X_BadWeights)  : Cal P w K mg base 1 "is_part" P_is_part sp_is_part :=
  ⟨⟨f, fd, ok_is_part F B R_Rule R_Weights E_SiltError E_BadDay E_BadWeights , hm, F.kp, F.binds (ps := P_is_part) fun _ _ _ _ _ _ us hl => match us, hl with | [_], _ => rfl⟩, mono_spF⟩

def sp_is_pair : SpD := spF 1 (fun (a : Int × Int) => [pairD a]) (fun a => PairV a) (fun _ d => d = .bl true)

abbrev s_is_pair : Stmt := top 12
def N_is_pair : List Str := ["pair", "most", "many"]
def P_is_pair : List Str := ["pair"]
theorem sc_is_pair : FnScope N_is_pair P_is_pair (defScope s_is_pair) := ⟨rfl, rfl, rfl, by decide +kernel, rfl, by decide +kernel, by decide +kernel⟩
theorem ok_is_pair {f : Addr} {fd : FuncData} (F : Fun K "is_pair" "is_pair" s_is_pair f fd) (B : Bl K mg C A_Weights) (R_Rule : RuleS K mg C) (R_Weights : WeightsS K mg A_Weights) (E_SiltError : ErrS K mg "SiltError" X_SiltError) (E_BadDay : ErrS K mg "BadDay" X_BadDay) (E_BadWeights : ErrS K mg "BadWeights" X_BadWeights) (C_is_whole : CalD P w K mg base 1 "is_whole" P_is_whole sp_is_whole [.int 0]) : FnOk P w K mg base (L2.CX P w) 2 f fd P_is_pair (spOf K sp_is_pair) := by
  refine fn_ok F sc_is_pair len_spF (io := []) io_spF (fun cdv A outer sh H E hr =>
 (db_cons (ds_if (dw_or (dt_not (dt_tru (de_callB call_isi (isi_s (.ty "tuple") B.isc B.tn B.k_tuple) (by rfl) B.isinstance (by rfl) (da_cons (de_var 0 (pv 0)) (da_cons (de_raw (pe_bltn (v := .ty "tuple") (by rfl) B.tuple (by rfl) rfl) rfl) da_nil))) (fun _ => rfl))) (dw_or1 (dt_cmp (op_neD (u64_of hr)) ne_s (de_callB call_len len_s (by rfl) B.len (by rfl) (da_cons (de_var 0 (pv 0)) da_nil)) de_int (nomark _)))).dt (db_one (ds_ret de_bl)) db_nil)
 (db_cons (ds_asg (vs := [1, 2]) (de_var 0 (pv 0)) (dg_tup (n := 2) rfl (dgs_cons (dg_name (i := 1) (show (_ : Nat) ∉ ([] : List Nat) by decide) (by decide) sc_is_pair.nd (by rfl) (.inl rfl)) (dgs_cons (dg_name (i := 2) (show (_ : Nat) ∉ ([] : List Nat) by decide) (by decide) sc_is_pair.nd (by rfl) (.inl rfl)) dgs_nil))))
 (db_one (ds_ret (de_and (de_c C_is_whole.cal (hr.mono (by decide)) (by rfl) (takes_of rfl rfl rfl rfl) (dr_v (de_var 1 (pv 1)) (dr_v (de_gint (by rfl) B.LEAST) dr_nil))) (de_and (de_c C_is_whole.cal (hr.mono (by decide)) (by rfl) (takes_of rfl rfl rfl rfl) (dr_v (de_var 2 (pv 2)) (dr_v (de_gint (by rfl) B.LEAST) dr_nil))) (de_one (de_chain op_le op_le (ops_I0 fun _ _ _ => .bl _) (ops_I0 fun _ _ _ => .bl _) (de_var 2 (pv 2)) (de_var 1 (pv 1)) (de_gint (by rfl) B.GREATEST)))))))))) ?_

  rintro ins Q R ⟨p, rfl, l, h, k⟩
  have h1 := h.lo; have h2 := h.le; have h3 := h.hi
  dsimp only [sSeq, sIf, sSet, sSetO, sRet, sRetO, sNext, sExpr, wTest, w1, w2, wVar, valOf, Env.at, Env.put, wOD, wLst, wTup, waNil, waCons, waStar, wC, wCall, wCallB, wIf, DL.wTru, truD, wAnd, wOr, DL.wNot, wAndV, wOrV, wNotV, List.map, List.length, List.replicate, List.replicate_succ, List.replicate_zero, DL.putK, OD.toD, o2I, o2I0, addD, mulD, ixD, lenL, lenD, intL, absL, maxL, minL, divmodL, tupleL, blOf, intOf, lstD, tupD, seqOf, outOf, List.tail, Nat.reduceAdd, Nat.reduceSub, wrNil, wrV, wrO, wCallR, wCallRO, takeA, takeK, backA, isOwn, Sl.asD, Sl.asO, spK, noInsO, sAugIx, modL, wIxB, lstOf, wTruB, bor, sExtO, wRep, wSl, wSlB, wCat, wListOf, wpNone, wpSome, DL.isScal, sFor, wRng1, wRng2, gN, gTupD, gConsD, gNilD, sAsg, sPar, parK, wnNil, wnV, wnO, sRetN, ownL, wIsi, isiL, isiD, eqD, neD, wComp, sAug, wGet, isC, wFld, fldD, wMeth, insD, madeK, wrDef, wMut, sRetB, List.nil_append, List.cons_append, DL.D.ty, seqD, gFld, modI, wEnum, wRev1, sumL, allL, anyL, sFreeze, frK, wIter, wIterT, wMake, wBm, idxL, sTry, exmD, sRaise, wEqO, wChain, wDNew, sSetK, modK, dicOf, wDGetB, wDGet, dicD, wDInB, wDGet2B, sAugK, keyD, wOfK, wOfKB, fCopy, fKeys, fSorted, wSortL, wDc, wKeys, wItems, wVals, sForL, noEx, eqK, neK, eqT, neT, ltT, wRng3, kD, N_is_pair, pairD] at k ⊢
  refine ⟨rfl, by simp [tys], fun _ => ⟨fun z => by (cases z), fun _ => ⟨(Cmp.int _).ok, (Cmp.int _).ok, fun z => absurd z (by decide), fun _ => ⟨rfl, rfl, ?_⟩⟩⟩, fun z => (z (by simp)).elim⟩
  refine ⟨(p.1, 2), rfl, rfl, trivial, fun d hd => ?_⟩
  subst hd
  refine ⟨fun _ => ?_, fun z => absurd z (by simp; omega)⟩
  refine ⟨(p.2, 2), rfl, rfl, trivial, fun d hd => ?_⟩
  subst hd
  refine ⟨fun _ => ?_, fun z => absurd z (by simp; omega)⟩
  dsimp only [sSeq, sIf, sSet, sSetO, sRet, sRetO, sNext, sExpr, wTest, w1, w2, wVar, valOf, Env.at, Env.put, wOD, wLst, wTup, waNil, waCons, waStar, wC, wCall, wCallB, wIf, DL.wTru, truD, wAnd, wOr, DL.wNot, wAndV, wOrV, wNotV, List.map, List.length, List.replicate, List.replicate_succ, List.replicate_zero, DL.putK, OD.toD, o2I, o2I0, addD, mulD, ixD, lenL, lenD, intL, absL, maxL, minL, divmodL, tupleL, blOf, intOf, lstD, tupD, seqOf, outOf, List.tail, Nat.reduceAdd, Nat.reduceSub, wrNil, wrV, wrO, wCallR, wCallRO, takeA, takeK, backA, isOwn, Sl.asD, Sl.asO, spK, noInsO, sAugIx, modL, wIxB, lstOf, wTruB, bor, sExtO, wRep, wSl, wSlB, wCat, wListOf, wpNone, wpSome, DL.isScal, sFor, wRng1, wRng2, gN, gTupD, gConsD, gNilD, sAsg, sPar, parK, wnNil, wnV, wnO, sRetN, ownL, wIsi, isiL, isiD, eqD, neD, wComp, sAug, wGet, isC, wFld, fldD, wMeth, insD, madeK, wrDef, wMut, sRetB, List.nil_append, List.cons_append, DL.D.ty, seqD, gFld, modI, wEnum, wRev1, sumL, allL, anyL, sFreeze, frK, wIter, wIterT, wMake, wBm, idxL, sTry, exmD, sRaise, wEqO, wChain, wDNew, sSetK, modK, dicOf, wDGetB, wDGet, dicD, wDInB, wDGet2B, sAugK, keyD, wOfK, wOfKB, fCopy, fKeys, fSorted, wSortL, wDc, wKeys, wItems, wVals, sForL, noEx, eqK, neK, eqT, neT, ltT, wRng3, kD, N_is_pair, wChain]
  refine ⟨fun _ => ⟨trivial, k _ (by simp; omega)⟩, fun z => absurd z (by simp; omega)⟩

theorem cal_is_pair {f : Addr} {fd : FuncData} (F : Fun K "is_pair" "is_pair" s_is_pair f fd) (hm : mg "is_pair" = some (.ref f)) (B : Bl K mg C A_Weights) (R_Rule : RuleS K mg C) (R_Weights : WeightsS K mg A_Weights) (E_SiltError : ErrS K mg "SiltError" X_SiltError) (E_BadDay : ErrS K mg "BadDay" X_BadDay) (E_BadWeights : ErrS K mg "BadWeights" X_BadWeights) (C_is_whole : CalD P w K mg base 1 "is_whole" P_is_whole sp_is_whole [.int 0]) : Cal P w K mg base 2 "is_pair" P_is_pair sp_is_pair :=
  ⟨⟨f, fd, ok_is_pair F B R_Rule R_Weights E_SiltError E_BadDay E_BadWeights C_is_whole, hm, F.kp, F.binds (ps := P_is_pair) fun _ _ _ _ _ _ us hl => match us, hl with | [_], _ => rfl⟩, mono_spF⟩

variable {α : Type} [DecidableEq α] [Cell α]
theorem eqv_row (xs ys : List α) : D.eqv (.lst (xs.map Cell.e)) (.lst (ys.map Cell.e)) = decide (xs = ys) := by
  unfold D.eqv
  rw [D.pd, D.pd, PyData.eqv, eqvAll_iff Cell.e Cell.eqv]
theorem cmp_row (xs : List α) : Cmp 2 (.lst (xs.map Cell.e)) := .lst fun d hd => by
  obtain ⟨p, _, rfl⟩ := List.mem_map.mp hd
  exact Cell.cmp p
theorem getD_repl {β : Type} (q : List β) (d : β) : ∀ (t j : Nat), j < t * q.length → (List.replicate t q).flatten.getD j d = q.getD (j % q.length) d
  | 0, j, h => by omega
  | t + 1, j, h => by
    rw [List.replicate_succ, List.flatten_cons, List.getD_eq_getElem?_getD, List.getD_eq_getElem?_getD]
    by_cases hj : j < q.length
    · rw [List.getElem?_append_left hj, Nat.mod_eq_of_lt hj]
    · rw [List.getElem?_append_right (by omega), ← List.getD_eq_getElem?_getD, getD_repl q d t (j - q.length) (by have e : (t + 1) * q.length = t * q.length + q.length := Nat.succ_mul ..; omega), List.getD_eq_getElem?_getD, Nat.mod_eq_sub_mod (a := j) (b := q.length) (by omega)]
theorem rowAt_repl (f q : List α) (t : Nat) (ht : 0 < t) (hq : q ≠ []) (g : Nat) : rowAt f (List.replicate t q).flatten g = rowAt f q g := by
  unfold rowAt
  split
  · rfl
  · have hl : (List.replicate t q).flatten.length = t * q.length := by rw [List.length_flatten, List.map_replicate, List.sum_replicate_nat]
    have hp : 0 < q.length := List.length_pos_iff.mpr hq
    have : 0 < t * q.length := Nat.mul_pos ht hp
    rw [hl, getD_repl q _ t _ (Nat.mod_lt _ this), Nat.mod_mul_left_mod]
theorem rowAt_turn (a q : List α) (x : α) (g : Nat) : rowAt (a ++ [x]) (q ++ [x]) g = rowAt a (x :: q) g := by
  unfold rowAt
  simp only [List.length_append, List.length_cons, List.length_nil, Nat.zero_add]
  by_cases h1 : g < a.length
  · rw [if_pos (by omega), if_pos h1, List.getD_eq_getElem?_getD, List.getElem?_append_left h1, ← List.getD_eq_getElem?_getD]
  · rw [if_neg h1]
    by_cases h2 : g = a.length
    · subst h2
      rw [if_pos (by omega), List.getD_eq_getElem?_getD, List.getElem?_append_right (Nat.le_refl _)]
      simp
    · rw [if_neg (by omega)]
      obtain ⟨k, rfl⟩ : ∃ k, g = a.length + 1 + k := ⟨g - a.length - 1, by omega⟩
      rw [show a.length + 1 + k - (a.length + 1) = k by omega, show a.length + 1 + k - a.length = k + 1 by omega]
      have hm : k % (q.length + 1) < q.length + 1 := Nat.mod_lt _ (by omega)
      by_cases h3 : k % (q.length + 1) = q.length
      · have : (k + 1) % (q.length + 1) = 0 := by rw [Nat.add_mod, h3]; simp
        rw [this, h3, List.getD_eq_getElem?_getD, List.getElem?_append_right (Nat.le_refl _)]; simp
      · have : (k + 1) % (q.length + 1) = k % (q.length + 1) + 1 := by
          rw [Nat.add_mod]
          by_cases hq : q.length = 0
          · omega
          · rw [Nat.mod_eq_of_lt (show 1 < q.length + 1 by omega), Nat.mod_eq_of_lt (by omega)]
        rw [this, List.getD_eq_getElem?_getD, List.getElem?_append_left (by omega)]; simp
/-- q makes p again and again, and no shorter list does -/
structure IsRoot (q p : List α) : Prop where
  ne : q ≠ []
  rep : ∃ t, 0 < t ∧ p = (List.replicate t q).flatten
  least : ∀ m, 0 < m → m < q.length → ¬ ∃ t, p = (List.replicate t (p.take m)).flatten


def sp__root (α : Type) [DecidableEq α] [Cell α] : SpD := spF 1 (fun (a : List α) => [.lst (a.map Cell.e)]) (fun a => a ≠ [] ∧ a.length ≤ 6) (fun a d => ∃ q, d = .lst (q.map Cell.e) ∧ IsRoot q a)

abbrev s__root : Stmt := top 21
def N__root : List Str := ["period", "many", "times", "rest"]
def P__root : List Str := ["period"]
theorem sc__root : FnScope N__root P__root (defScope s__root) := ⟨rfl, rfl, rfl, by decide +kernel, rfl, by decide +kernel, by decide +kernel⟩
theorem ok__root {f : Addr} {fd : FuncData} (F : Fun K "_root" "_root" s__root f fd) (B : Bl K mg C A_Weights) (R_Rule : RuleS K mg C) (R_Weights : WeightsS K mg A_Weights) (E_SiltError : ErrS K mg "SiltError" X_SiltError) (E_BadDay : ErrS K mg "BadDay" X_BadDay) (E_BadWeights : ErrS K mg "BadWeights" X_BadWeights)  : FnOk P w K mg base (L2.CX P w) 1 f fd P__root (spOf K (sp__root α)) := by
  refine fn_ok F sc__root len_spF (io := []) io_spF (fun cdv A outer sh H E hr =>
 (db_cons (ds_for (vs := [1]) (passes_of rfl) rfl (di_range2 (by rfl) B.range (da_cons de_int (da_cons (de_callB call_len len_s (by rfl) B.len (by rfl) (da_cons (de_var 0 (pv 0)) da_nil)) da_nil))) (dg_name (i := 1) (show (_ : Nat) ∉ ([] : List Nat) by decide) (by decide) sc__root.nd (by rfl) (.inl rfl)) (db_cons (ds_asg (vs := [2, 3]) (de_callB call_divmod divmod_s (by rfl) B.divmod (by rfl) (da_cons (de_callB call_len len_s (by rfl) B.len (by rfl) (da_cons (de_var 0 (pv 0)) da_nil)) (da_cons (de_var 1 (pv 1)) da_nil))) (dg_tup (n := 2) rfl (dgs_cons (dg_name (i := 2) (show (_ : Nat) ∉ ([] : List Nat) by decide) (by decide) sc__root.nd (by rfl) (.inl rfl)) (dgs_cons (dg_name (i := 3) (show (_ : Nat) ∉ ([] : List Nat) by decide) (by decide) sc__root.nd (by rfl) (.inl rfl)) dgs_nil))))
 (db_one (ds_if (dw_and (dt_cmp (op_eqD (u64_of hr)) eq_s (de_var 3 (pv 3)) de_int (nomark _)) (dw_and1 (dt_cmp (op_eqD (u64_of hr)) eq_s (do_rep (do_sl (de_var 0 (pv 0)) dp_none (dp_some (de_var 1 (pv 1)))).de (de_var 2 (pv 2))).de (de_var 0 (pv 0)) (nomark _)))).dt (db_one (ds_ret (do_sl (de_var 0 (pv 0)) dp_none (dp_some (de_var 1 (pv 1)))).de)) db_nil))))
 (db_one (ds_ret (de_var 0 (pv 0)))))) ?_

  rintro ins Q R ⟨p, rfl, l, ⟨hp, hl⟩, k⟩
  dsimp only [sSeq, sIf, sSet, sSetO, sRet, sRetO, sNext, sExpr, wTest, w1, w2, wVar, valOf, Env.at, Env.put, wOD, wLst, wTup, waNil, waCons, waStar, wC, wCall, wCallB, wIf, DL.wTru, truD, wAnd, wOr, DL.wNot, wAndV, wOrV, wNotV, List.map, List.length, List.replicate, List.replicate_succ, List.replicate_zero, DL.putK, OD.toD, o2I, o2I0, addD, mulD, ixD, lenL, lenD, intL, absL, maxL, minL, divmodL, tupleL, blOf, intOf, lstD, tupD, seqOf, outOf, List.tail, Nat.reduceAdd, Nat.reduceSub, wrNil, wrV, wrO, wCallR, wCallRO, takeA, takeK, backA, isOwn, Sl.asD, Sl.asO, spK, noInsO, sAugIx, modL, wIxB, lstOf, wTruB, bor, sExtO, wRep, wSl, wSlB, wCat, wListOf, wpNone, wpSome, DL.isScal, sFor, wRng1, wRng2, gN, gTupD, gConsD, gNilD, sAsg, sPar, parK, wnNil, wnV, wnO, sRetN, ownL, wIsi, isiL, isiD, eqD, neD, wComp, sAug, wGet, isC, wFld, fldD, wMeth, insD, madeK, wrDef, wMut, sRetB, List.nil_append, List.cons_append, DL.D.ty, seqD, gFld, modI, wEnum, wRev1, sumL, allL, anyL, sFreeze, frK, wIter, wIterT, wMake, wBm, idxL, sTry, exmD, sRaise, wEqO, wChain, wDNew, sSetK, modK, dicOf, wDGetB, wDGet, dicD, wDInB, wDGet2B, sAugK, keyD, wOfK, wOfKB, fCopy, fKeys, fSorted, wSortL, wDc, wKeys, wItems, wVals, sForL, noEx, eqK, neK, eqT, neT, ltT, wRng3, kD, N__root] at k ⊢
  have hp0 : 0 < p.length := List.length_pos_iff.mpr hp
  simp only [List.length_map]
  refine ⟨⟨by omega, by omega⟩, ?_⟩
  have en : ((p.length : Int) - 1).toNat = p.length - 1 := by omega
  rw [en]
  refine forGo_rng2 1 (p.length - 1) (fun i ρ => ∃ s t u, ρ = [.v (.lst (p.map Cell.e)), s, t, u] ∧ noIns s ∧ noIns t ∧ noIns u ∧ ∀ m, 0 < m → m < 1 + i → ¬ ∃ t, p = (List.replicate t (p.take m)).flatten) (fun i ρ hi hI P hP => ?_) (fun ρ hI => ?_) ⟨.no, .no, .no, rfl, trivial, trivial, trivial, fun m h1 h2 => by omega⟩
  · obtain ⟨s, t, u, rfl, hs, ht, hu, hno⟩ := hI
    refine putK_intro (by simp) hs ?_
    dsimp only [sSeq, sIf, sSet, sSetO, sRet, sRetO, sNext, sExpr, wTest, w1, w2, wVar, valOf, Env.at, Env.put, wOD, wLst, wTup, waNil, waCons, waStar, wC, wCall, wCallB, wIf, DL.wTru, truD, wAnd, wOr, DL.wNot, wAndV, wOrV, wNotV, List.map, List.length, List.replicate, List.replicate_succ, List.replicate_zero, OD.toD, o2I, o2I0, addD, mulD, ixD, lenL, lenD, intL, absL, maxL, minL, divmodL, tupleL, blOf, intOf, lstD, tupD, seqOf, outOf, List.tail, Nat.reduceAdd, Nat.reduceSub, wrNil, wrV, wrO, wCallR, wCallRO, takeA, takeK, backA, isOwn, Sl.asD, Sl.asO, spK, noInsO, sAugIx, modL, wIxB, lstOf, wTruB, bor, sExtO, wRep, wSl, wSlB, wCat, wListOf, wpNone, wpSome, DL.isScal, sFor, wRng1, wRng2, gN, gTupD, gConsD, gNilD, sAsg, sPar, parK, wnNil, wnV, wnO, sRetN, ownL, wIsi, isiL, isiD, eqD, neD, wComp, sAug, wGet, isC, wFld, fldD, wMeth, insD, madeK, wrDef, wMut, sRetB, List.nil_append, List.cons_append, DL.D.ty, seqD, gFld, modI, wEnum, wRev1, sumL, allL, anyL, sFreeze, frK, wIter, wIterT, wMake, wBm, idxL, sTry, exmD, sRaise, wEqO, wChain, wDNew, sSetK, modK, dicOf, wDGetB, wDGet, dicD, wDInB, wDGet2B, sAugK, keyD, wOfK, wOfKB, fCopy, fKeys, fSorted, wSortL, wDc, wKeys, wItems, wVals, sForL, noEx, eqK, neK, eqT, neT, ltT, wRng3, kD]
    simp only [List.length_map]
    refine ⟨⟨by omega, by omega⟩, trivial, putK_intro (by simp) ht (putK_intro (by simp [Env.put_len]) hu ⟨trivial, ?_⟩)⟩
    dsimp only [sSeq, sIf, sSet, sSetO, sRet, sRetO, sNext, sExpr, wTest, w1, w2, wVar, valOf, Env.at, Env.put, wOD, wLst, wTup, waNil, waCons, waStar, wC, wCall, wCallB, wIf, DL.wTru, truD, wAnd, wOr, DL.wNot, wAndV, wOrV, wNotV, List.map, List.length, List.replicate, List.replicate_succ, List.replicate_zero, DL.putK, OD.toD, o2I, o2I0, addD, mulD, ixD, lenL, lenD, intL, absL, maxL, minL, divmodL, tupleL, blOf, intOf, lstD, tupD, seqOf, outOf, List.tail, Nat.reduceAdd, Nat.reduceSub, wrNil, wrV, wrO, wCallR, wCallRO, takeA, takeK, backA, isOwn, Sl.asD, Sl.asO, spK, noInsO, sAugIx, modL, wIxB, lstOf, wTruB, bor, sExtO, wRep, wSl, wSlB, wCat, wListOf, wpNone, wpSome, DL.isScal, sFor, wRng1, wRng2, gN, gTupD, gConsD, gNilD, sAsg, sPar, parK, wnNil, wnV, wnO, sRetN, ownL, wIsi, isiL, isiD, eqD, neD, wComp, sAug, wGet, isC, wFld, fldD, wMeth, insD, madeK, wrDef, wMut, sRetB, List.nil_append, List.cons_append, DL.D.ty, seqD, gFld, modI, wEnum, wRev1, sumL, allL, anyL, sFreeze, frK, wIter, wIterT, wMake, wBm, idxL, sTry, exmD, sRaise, wEqO, wChain, wDNew, sSetK, modK, dicOf, wDGetB, wDGet, dicD, wDInB, wDGet2B, sAugK, keyD, wOfK, wOfKB, fCopy, fKeys, fSorted, wSortL, wDc, wKeys, wItems, wVals, sForL, noEx, eqK, neK, eqT, neT, ltT, wRng3, kD, N__root]
    have stop : (¬ ∃ t, p = (List.replicate t (p.take (i + 1))).flatten) → P [.v (.lst (p.map Cell.e)), .v (.int (1 + i)), .v (.int (p.length / (1 + i))), .v (.int (p.length % (1 + i)))] := fun hn => hP _ ⟨_, _, _, rfl, trivial, trivial, trivial, fun m h1 h2 => by
      by_cases e : m = i + 1
      · subst e; exact hn
      · exact hno m h1 (by omega)⟩
    have cute : cut (p.map Cell.e) none (some (1 + (i : Int))) = (p.take (i + 1)).map Cell.e := by
      rw [cut_to _ (by omega), show (1 + (i : Int)).toNat = i + 1 by omega, List.map_take]
    have lt : (p.take (i + 1)).length = i + 1 := by rw [List.length_take]; omega
    refine ⟨(Cmp.int _).ok, (Cmp.int _).ok, fun h => ?_, fun h => ⟨fun z => by (cases z), fun _ => ?_⟩⟩
    · have h : (p.length : Int) % (1 + i) = 0 := by simpa [D.eqv, D.pd, PyData.eqv] using h
      have hd : (p.length : Int) = (p.length : Int) / (1 + i) * (1 + i) := by
        have := Int.emod_add_mul_ediv p.length (1 + i)
        rw [h, Int.zero_add, Int.mul_comm] at this
        exact this.symm
      have q0 : 0 ≤ (p.length : Int) / (1 + i) := Int.ediv_nonneg (by omega) (by omega)
      have q1 : (p.length : Int) / (1 + i) ≤ p.length := Int.ediv_le_self _ (by omega)
      rw [cute, repL_map, eqv_row]
      refine ⟨⟨by omega, by omega, ?_⟩, (cmp_row _).ok, (cmp_row _).ok, fun hh => ?_, fun hh => ?_⟩
      · rw [List.length_map, lt]
        have : (i + 1) * ((p.length : Int) / (1 + i)).toNat ≤ 6 * 6 := Nat.mul_le_mul (by omega) (by omega)
        show _ ≤ 16777216
        omega
      · have hh : repL ((p.length : Int) / (1 + i)) (p.take (i + 1)) = p := by simpa using hh
        refine ⟨trivial, k _ ⟨p.take (i + 1), rfl, ?_, ⟨((p.length : Int) / (1 + i)).toNat, ?_, hh.symm⟩, fun m h1 h2 => ?_⟩⟩
        · intro e; rw [e] at lt; simp at lt
        · rcases Nat.eq_zero_or_pos ((p.length : Int) / (1 + i)).toNat with z | z
          · have : (p.length : Int) / (1 + i) = 0 := by omega
            rw [this] at hd; omega
          · exact z
        · have := hno m h1 (by rw [lt] at h2; omega)
          rw [lt] at h2
          rintro ⟨t, ht⟩
          refine this ⟨t, ?_⟩
          exact ht
      · have hh : ¬ repL ((p.length : Int) / (1 + i)) (p.take (i + 1)) = p := by simpa using hh
        refine stop ?_
        rintro ⟨t, ht⟩
        have l1 : p.length = t * (i + 1) := by
          have := congrArg List.length ht
          rwa [List.length_flatten, List.map_replicate, List.sum_replicate_nat, lt] at this
        refine hh ?_
        have : ((p.length : Int) / (1 + i)).toNat = t := by
          rw [l1, Int.natCast_mul, show (((i + 1 : Nat) : Int)) = 1 + i by omega, Int.mul_ediv_cancel _ (by omega)]
          omega
        unfold repL
        rw [this]
        exact ht.symm
    · have h : ¬ (p.length : Int) % (1 + i) = 0 := by simpa [D.eqv, D.pd, PyData.eqv] using h
      refine stop ?_
      rintro ⟨t, ht⟩
      have l1 : p.length = t * (i + 1) := by
        have := congrArg List.length ht
        rwa [List.length_flatten, List.map_replicate, List.sum_replicate_nat, lt] at this
      refine h ?_
      rw [l1, Int.natCast_mul, show (((i + 1 : Nat) : Int)) = 1 + i by omega, Int.mul_emod_left]
  · obtain ⟨s, t, u, rfl, hs, ht, hu, hno⟩ := hI
    refine ⟨trivial, k _ ⟨p, rfl, hp, ⟨1, by decide, by simp⟩, fun m h1 h2 => hno m h1 (by omega)⟩⟩

theorem cal__root {f : Addr} {fd : FuncData} (F : Fun K "_root" "_root" s__root f fd) (hm : mg "_root" = some (.ref f)) (B : Bl K mg C A_Weights) (R_Rule : RuleS K mg C) (R_Weights : WeightsS K mg A_Weights) (E_SiltError : ErrS K mg "SiltError" X_SiltError) (E_BadDay : ErrS K mg "BadDay" X_BadDay) (E_BadWeights : ErrS K mg "BadWeights" X_BadWeights)  : Cal P w K mg base 1 "_root" P__root (sp__root α) :=
  ⟨⟨f, fd, ok__root F B R_Rule R_Weights E_SiltError E_BadDay E_BadWeights , hm, F.kp, F.binds (ps := P__root) fun _ _ _ _ _ _ us hl => match us, hl with | [_], _ => rfl⟩, mono_spF⟩
end L53
set_option Elab.async false
set_option linter.all false
set_option maxRecDepth 100000
set_option maxHeartbeats 0
namespace L53
open PySem L2 DL
variable {P : Program} {w : World} {K : PySem.W.Frag} {mg : Str → Option Value} {base : Heap} {C A_Weights X_SiltError X_BadDay X_BadWeights : Addr}

/-- what a row is told by at the end -/
structure Short {α : Type} [DecidableEq α] [Cell α] (f p f' p' : List α) : Prop where
  ne : p' ≠ []
  row : ∀ g, rowAt f' p' g = rowAt f p g
  sub : ∀ x ∈ f' ++ p', x ∈ f ++ p


variable {α : Type} [DecidableEq α] [Cell α]


def sp_shortest (α : Type) [DecidableEq α] [Cell α] : SpD := spF 2 (fun (a : (Bool × List α) × Bool × List α) => [seqD a.1.1 (a.1.2.map Cell.e), seqD a.2.1 (a.2.2.map Cell.e)]) (fun a => a.1.2.length ≤ 6 ∧ a.2.2 ≠ [] ∧ a.2.2.length ≤ 6) (fun a d => ∃ f' p', d = .tup [.tup (f'.map Cell.e), .tup (p'.map Cell.e)] ∧ Short a.1.2 a.2.2 f' p')

abbrev s_shortest : Stmt := top 20
def N_shortest : List Str := ["front", "period", "ahead", "again"]
def P_shortest : List Str := ["front", "period"]
theorem sc_shortest : FnScope N_shortest P_shortest (defScope s_shortest) := ⟨rfl, rfl, rfl, by decide +kernel, rfl, by decide +kernel, by decide +kernel⟩
theorem ok_shortest {f : Addr} {fd : FuncData} (F : Fun K "shortest" "shortest" s_shortest f fd) (B : Bl K mg C A_Weights) (R_Rule : RuleS K mg C) (R_Weights : WeightsS K mg A_Weights) (E_SiltError : ErrS K mg "SiltError" X_SiltError) (E_BadDay : ErrS K mg "BadDay" X_BadDay) (E_BadWeights : ErrS K mg "BadWeights" X_BadWeights) (C__root : Cal P w K mg base 1 "_root" P__root (sp__root α)) : FnOk P w K mg base (L2.CX P w) 2 f fd P_shortest (spOf K (sp_shortest α)) := by
  refine fn_ok F sc_shortest len_spF (io := []) io_spF (fun cdv A outer sh H E hr =>
 (db_cons (ds_par (i := 2) (j := 3) rfl sc_shortest.nd (by rfl) (by rfl) (by decide) (show (_ : Nat) ∉ ([] : List Nat) by decide) (show (_ : Nat) ∉ ([] : List Nat) by decide) (by rfl) (by rfl) (dn_o (do_listOf (by rfl) B.list (by rfl) (de_var 0 (pv 0))) (dn_v (de_c C__root (hr.mono (by decide)) (by rfl) (takes_of rfl rfl rfl rfl) (dr_v (do_listOf (by rfl) B.list (by rfl) (de_var 1 (pv 1))).de dr_nil)) dn_nil)))
 (db_cons (ds_while (passes_of rfl) (dw_and (dt_truB 2 (pv 2) (fun _ => rfl)) (dw_and1 (dt_cmp (op_eqD (u64_of hr)) eq_s (de_ixB 2 (pv 2) (de_neg de_int) (fun _ _ => rfl)) (de_ix (de_var 3 (pv 3)) (de_neg de_int) (fun _ _ => rfl)) (nomark _)))).dt (db_one (ds_set (i := 3) (show (_ : Nat) ∉ ([] : List Nat) by decide) sc_shortest.nd (by rfl) (.inl rfl) (do_cat (do_lst (da_cons (de_pop 2 (pv 2)) da_nil)).de (do_sl (de_var 3 (pv 3)) dp_none (dp_some (de_neg de_int))).de).de)))
 (db_one (ds_ret (de_tup (da_cons (de_tupleB 2 (by rfl) B.tuple (by rfl) (pv 2)) (da_cons (de_callTy call_tuple_of tuple_s (by rfl) B.tuple (by rfl) (da_cons (de_var 3 (pv 3)) da_nil)) da_nil)))))))) ?_

  rintro ins Q R ⟨⟨⟨b1, f⟩, b2, p⟩, rfl, l, ⟨hf, hp, hl⟩, k⟩
  have main : ∀ (q : List α), IsRoot q p → q ≠ [] ∧ q.length ≤ 6 ∧ (∀ g, rowAt f q g = rowAt f p g) ∧ ∀ x ∈ f ++ q, x ∈ f ++ p := fun q h => by
    obtain ⟨t, t0, ht⟩ := h.rep
    have hlen : p.length = t * q.length := by rw [ht, List.length_flatten, List.map_replicate, List.sum_replicate_nat]
    refine ⟨h.ne, ?_, fun g => by rw [ht, rowAt_repl f q t t0 h.ne], fun x hx => ?_⟩
    · have : 1 * q.length ≤ t * q.length := Nat.mul_le_mul_right _ t0
      dsimp only at hl
      omega
    · rcases List.mem_append.mp hx with hx | hx
      · exact List.mem_append_left _ hx
      · refine List.mem_append_right _ ?_
        rw [ht]
        exact List.mem_flatten.mpr ⟨q, List.mem_replicate.mpr ⟨by omega, rfl⟩, hx⟩
  cases b1 <;> cases b2
  all_goals
    dsimp only [sSeq, sIf, sSet, sSetO, sRet, sRetO, sNext, sExpr, wTest, w1, w2, wVar, valOf, Env.at, Env.put, wOD, wLst, wTup, waNil, waCons, waStar, wC, wCall, wCallB, wIf, DL.wTru, truD, wAnd, wOr, DL.wNot, wAndV, wOrV, wNotV, List.map, List.length, List.replicate, List.replicate_succ, List.replicate_zero, DL.putK, OD.toD, o2I, o2I0, addD, mulD, ixD, lenL, lenD, intL, absL, maxL, minL, divmodL, tupleL, blOf, intOf, lstD, tupD, seqOf, outOf, List.tail, Nat.reduceAdd, Nat.reduceSub, wrNil, wrV, wrO, wCallR, wCallRO, takeA, takeK, backA, isOwn, Sl.asD, Sl.asO, spK, noInsO, sAugIx, modL, wIxB, lstOf, wTruB, bor, sExtO, wRep, wSl, wSlB, wCat, wListOf, wpNone, wpSome, DL.isScal, sFor, wRng1, wRng2, gN, gTupD, gConsD, gNilD, sAsg, sPar, parK, wnNil, wnV, wnO, sRetN, ownL, wIsi, isiL, isiD, eqD, neD, wComp, sAug, wGet, isC, wFld, fldD, wMeth, insD, madeK, wrDef, wMut, sRetB, List.nil_append, List.cons_append, DL.D.ty, seqD, gFld, modI, wEnum, wRev1, sumL, allL, anyL, sFreeze, frK, wIter, wIterT, wMake, wBm, idxL, sTry, exmD, sRaise, wEqO, wChain, wDNew, sSetK, modK, dicOf, wDGetB, wDGet, dicD, wDInB, wDGet2B, sAugK, keyD, wOfK, wOfKB, fCopy, fKeys, fSorted, wSortL, wDc, wKeys, wItems, wVals, sForL, noEx, eqK, neK, eqT, neT, ltT, wRng3, kD, N_shortest] at hf hp hl k ⊢
    refine ⟨trivial, p, rfl, rfl, ⟨hp, hl⟩, fun d hd => ?_⟩
    obtain ⟨q, rfl, hq⟩ := hd
    obtain ⟨m1, m2, m3, m4⟩ := main q hq
    refine ⟨rfl, fun m ρ => ∃ a q, ρ = [_, _, .own (.lst (a.map Cell.e)), .v (.lst (q.map Cell.e))] ∧ m = a.length ∧ q ≠ [] ∧ q.length ≤ 6 ∧ a.length ≤ 6 ∧ (∀ g, rowAt a q g = rowAt f p g) ∧ ∀ x ∈ a ++ q, x ∈ f ++ p, ⟨_, f, q, rfl, rfl, m1, m2, hf, m3, m4⟩, fun m ρ hI => ?_⟩
    clear hq m1 m2 m3 m4 main q
    obtain ⟨a, q, rfl, rfl, i1, i2, i3, i4, i5⟩ := hI
    dsimp only [sSeq, sIf, sSet, sSetO, sRet, sRetO, sNext, sExpr, wTest, w1, w2, wVar, valOf, Env.at, Env.put, wOD, wLst, wTup, waNil, waCons, waStar, wC, wCall, wCallB, wIf, DL.wTru, truD, wAnd, wOr, DL.wNot, wAndV, wOrV, wNotV, List.map, List.length, List.replicate, List.replicate_succ, List.replicate_zero, DL.putK, OD.toD, o2I, o2I0, addD, mulD, ixD, lenL, lenD, intL, absL, maxL, minL, divmodL, tupleL, blOf, intOf, lstD, tupD, seqOf, outOf, List.tail, Nat.reduceAdd, Nat.reduceSub, wrNil, wrV, wrO, wCallR, wCallRO, takeA, takeK, backA, isOwn, Sl.asD, Sl.asO, spK, noInsO, sAugIx, modL, wIxB, lstOf, wTruB, bor, sExtO, wRep, wSl, wSlB, wCat, wListOf, wpNone, wpSome, DL.isScal, sFor, wRng1, wRng2, gN, gTupD, gConsD, gNilD, sAsg, sPar, parK, wnNil, wnV, wnO, sRetN, ownL, wIsi, isiL, isiD, eqD, neD, wComp, sAug, wGet, isC, wFld, fldD, wMeth, insD, madeK, wrDef, wMut, sRetB, List.nil_append, List.cons_append, DL.D.ty, seqD, gFld, modI, wEnum, wRev1, sumL, allL, anyL, sFreeze, frK, wIter, wIterT, wMake, wBm, idxL, sTry, exmD, sRaise, wEqO, wChain, wDNew, sSetK, modK, dicOf, wDGetB, wDGet, dicD, wDInB, wDGet2B, sAugK, keyD, wOfK, wOfKB, fCopy, fKeys, fSorted, wSortL, wDc, wKeys, wItems, wVals, sForL, noEx, eqK, neK, eqT, neT, ltT, wRng3, kD, N_shortest]
    have fin : ∀ d, d = .tup [.tup (a.map Cell.e), .tup (q.map Cell.e)] → Q (.v d) [.no, .no] := fun d e => k _ ⟨a, q, e, ⟨i1, i4, i5⟩⟩
    obtain ⟨q', y, rfl⟩ := (list_snoc q).resolve_left i1
    have hy : atI ((q' ++ [y]).map Cell.e) (-1) = some (Cell.e y) := by rw [atI_map, atI_last]; rfl
    rcases list_snoc a with rfl | ⟨a', x, rfl⟩
    · exact ⟨fun z => by (cases z), fun _ => ⟨fun z => by (cases z), fun _ => ⟨by decide, trivial, fin _ rfl⟩⟩⟩
    · refine ⟨fun _ => ⟨trivial, Cell.e x, by rw [atI_map, atI_last]; rfl, Cell.e y, hy, (Cell.cmp x).ok, (Cell.cmp y).ok, fun h => ?_, fun _ => ⟨by decide, trivial, fin _ rfl⟩⟩, fun z => ?_⟩
      · have h : x = y := by simpa [D.eqv, Cell.eqv] using h
        subst h
        simp only [List.length_append, List.length_cons, List.length_nil] at i2 i3
        refine ⟨trivial, rfl, Cell.e x, by simp, by decide, ?_, a'.length, by simp, a', x :: q', ?_, rfl, by simp, by simp; omega, by omega, fun g => by rw [← rowAt_turn, i4], fun z hz => ?_⟩
        · rw [cut_init]
          simp only [List.map_append, List.map_cons, List.map_nil, List.dropLast_concat, List.length_map]
          show _ ≤ 16777216
          omega
        · rw [cut_init]; simp
        · refine i5 z ?_
          simp only [List.mem_append, List.mem_cons, List.not_mem_nil, or_false] at hz ⊢
          rcases hz with h | h | h
          · exact .inl (.inl h)
          · exact .inl (.inr h)
          · exact .inr (.inl h)
      · simp at z

theorem cal_shortest {f : Addr} {fd : FuncData} (F : Fun K "shortest" "shortest" s_shortest f fd) (hm : mg "shortest" = some (.ref f)) (B : Bl K mg C A_Weights) (R_Rule : RuleS K mg C) (R_Weights : WeightsS K mg A_Weights) (E_SiltError : ErrS K mg "SiltError" X_SiltError) (E_BadDay : ErrS K mg "BadDay" X_BadDay) (E_BadWeights : ErrS K mg "BadWeights" X_BadWeights) (C__root : Cal P w K mg base 1 "_root" P__root (sp__root α)) : Cal P w K mg base 2 "shortest" P_shortest (sp_shortest α) :=
  ⟨⟨f, fd, ok_shortest F B R_Rule R_Weights E_SiltError E_BadDay E_BadWeights C__root, hm, F.kp, F.binds (ps := P_shortest) fun _ _ _ _ _ _ us hl => match us, hl with | [_, _], _ => rfl⟩, mono_spF⟩



def sp_Rule___init__ (C : Addr) : SpD := spIF C 2 (fun (a : (Bool × List (Int × Int)) × Bool × List (Int × Int)) => [seqD a.1.1 (a.1.2.map pairD), seqD a.2.1 (a.2.2.map pairD)]) (fun a => a.1.2.length ≤ 6 ∧ a.2.2 ≠ [] ∧ a.2.2.length ≤ 6 ∧ ∀ x ∈ a.1.2 ++ a.2.2, PairV x)
  (fun a ns xs => ∃ r : Ru, ns = [("front" : Str), "period"] ∧ xs = [.tup (r.f.map pairD), .tup (r.p.map pairD)] ∧ ∀ g, r.at g = rowAt a.1.2 a.2.2 g)

abbrev s_Rule___init__ : Stmt := inClass (top 24) 0
def N_Rule___init__ : List Str := ["self", "front", "period", "place", "pair"]
def P_Rule___init__ : List Str := ["self", "front", "period"]
theorem sc_Rule___init__ : FnScope N_Rule___init__ P_Rule___init__ (defScope s_Rule___init__) := ⟨rfl, rfl, rfl, by decide +kernel, rfl, by decide +kernel, by decide +kernel⟩
-- [('raise', 'raise BadRule(None)'), ('raise', 'raise BadRule(place)')]
theorem ok_Rule___init__ {f : Addr} {fd : FuncData} (F : Fun K "__init__" "Rule.__init__" s_Rule___init__ f fd) (B : Bl K mg C A_Weights) (R_Rule : RuleS K mg C) (R_Weights : WeightsS K mg A_Weights) (E_SiltError : ErrS K mg "SiltError" X_SiltError) (E_BadDay : ErrS K mg "BadDay" X_BadDay) (E_BadWeights : ErrS K mg "BadWeights" X_BadWeights) (C_is_part : Cal P w K mg base 1 "is_part" P_is_part sp_is_part) (C_is_pair : Cal P w K mg base 2 "is_pair" P_is_pair sp_is_pair) (C_shortest : Cal P w K mg base 2 "shortest" P_shortest (sp_shortest (Int×Int))) : FnOk P w K mg base (L2.CX P w) 4 f fd P_Rule___init__ (spOf K (sp_Rule___init__ C)) := by
  refine fn_ok F sc_Rule___init__ len_spIF (io := [0]) io_spIF (fun cdv A outer sh H E hr =>
 (db_cons (ds_if (dw_or (dt_not (dt_tru (de_c C_is_part (hr.mono (by decide)) (by rfl) (takes_of rfl rfl rfl rfl) (dr_v (de_var 1 (pv 1)) dr_nil)) (fun _ => rfl))) (dw_or (dt_not (dt_tru (de_c C_is_part (hr.mono (by decide)) (by rfl) (takes_of rfl rfl rfl rfl) (dr_v (de_var 2 (pv 2)) dr_nil)) (fun _ => rfl))) (dw_or1 (dt_not (dt_tru (de_var 2 (pv 2)) (fun _ => rfl)))))).dt (db_one ds_dead) db_nil)
 (db_cons (ds_for (vs := [3, 4]) (passes_of rfl) rfl (di_enum (by rfl) B.enumerate (da_cons (do_lst (da_star (de_var 1 (pv 1)) (da_star (de_var 2 (pv 2)) da_nil))).de da_nil) (fun t pt => pi_enum (by rfl) B.enumerate pt)) (dg_tup (n := 2) rfl (dgs_cons (dg_name (i := 3) (show (_ : Nat) ∉ ([0] : List Nat) by decide) (by decide) sc_Rule___init__.nd (by rfl) (.inl rfl)) (dgs_cons (dg_name (i := 4) (show (_ : Nat) ∉ ([0] : List Nat) by decide) (by decide) sc_Rule___init__.nd (by rfl) (.inl rfl)) dgs_nil))) (db_one (ds_if (dt_not (dt_tru (de_c C_is_pair (hr.mono (by decide)) (by rfl) (takes_of rfl rfl rfl rfl) (dr_v (de_var 4 (pv 4)) dr_nil)) (fun _ => rfl))) (db_one ds_dead) db_nil)))
 (db_one (ds_asgH (de_c C_shortest (hr.mono (by decide)) (by rfl) (takes_of rfl rfl rfl rfl) (dr_v (de_var 1 (pv 1)) (dr_v (de_var 2 (pv 2)) dr_nil))) (dh_tup (n := 2) rfl (dhs_cons (dh_attr (i := 0) (pv 0) R_Rule.cl R_Rule.n_front) (dhs_cons (dh_attr (i := 0) (pv 0) R_Rule.cl R_Rule.n_period) dhs_nil)))))))) ?_

  rintro ins Q R ⟨dx, ⟨⟨b1, f⟩, b2, p⟩, rfl, l, ⟨hf, hp, hl, hv⟩, k⟩
  have lm : ∀ zs : List (Int × Int), zs.length ≤ 6 → decide (((zs.map pairD).length : Int) ≤ 6) = true := fun zs h => by
    rw [List.length_map]; exact decide_eq_true (by omega)
  have ep : (p.map pairD).isEmpty = false := by
    cases p with
    | nil => exact absurd rfl hp
    | cons _ _ => rfl
  have ll : (f.map pairD ++ (p.map pairD ++ [])).length ≤ LIM := by
    simp only [List.length_append, List.length_map, List.length_nil]
    show _ ≤ 16777216
    have hf' : f.length ≤ 6 := hf
    have hl' : p.length ≤ 6 := hl
    omega
  cases b1 <;> cases b2
  all_goals
    dsimp only [sSeq, sIf, sSet, sSetO, sRet, sRetO, sNext, sExpr, wTest, w1, w2, wVar, valOf, Env.at, Env.put, wOD, wLst, wTup, waNil, waCons, waStar, wC, wCall, wCallB, wIf, DL.wTru, truD, wAnd, wOr, DL.wNot, wAndV, wOrV, wNotV, List.map, List.length, List.replicate, List.replicate_succ, List.replicate_zero, DL.putK, OD.toD, o2I, o2I0, addD, mulD, ixD, lenL, lenD, intL, absL, maxL, minL, divmodL, tupleL, blOf, intOf, lstD, tupD, seqOf, outOf, List.tail, Nat.reduceAdd, Nat.reduceSub, wrNil, wrV, wrO, wCallR, wCallRO, takeA, takeK, backA, isOwn, Sl.asD, Sl.asO, spK, noInsO, sAugIx, modL, wIxB, lstOf, wTruB, bor, sExtO, wRep, wSl, wSlB, wCat, wListOf, wpNone, wpSome, DL.isScal, sFor, wRng1, wRng2, gN, gTupD, gConsD, gNilD, sAsg, sPar, parK, wnNil, wnV, wnO, sRetN, ownL, wIsi, isiL, isiD, eqD, neD, wComp, sAug, wGet, isC, wFld, fldD, wMeth, insD, madeK, wrDef, wMut, sRetB, List.nil_append, List.cons_append, DL.D.ty, seqD, gFld, modI, wEnum, wRev1, sumL, allL, anyL, sFreeze, frK, wIter, wIterT, wMake, wBm, idxL, sTry, exmD, sRaise, wEqO, wChain, wDNew, sSetK, modK, dicOf, wDGetB, wDGet, dicD, wDInB, wDGet2B, sAugK, keyD, wOfK, wOfKB, fCopy, fKeys, fSorted, wSortL, wDc, wKeys, wItems, wVals, sForL, noEx, eqK, neK, eqT, neT, ltT, wRng3, kD, N_Rule___init__] at hf hp hl hv k ⊢
  · refine ⟨(false, f.map pairD), rfl, rfl, trivial, fun d hd => ?_⟩
    subst hd
    rw [lm f hf]
    refine ⟨fun z => by (cases z), fun _ => ?_⟩
    refine ⟨(false, p.map pairD), rfl, rfl, trivial, fun d hd => ?_⟩
    subst hd
    rw [lm p hl]
    refine ⟨fun z => by (cases z), fun _ => ?_⟩
    dsimp only [sSeq, sIf, sSet, sSetO, sRet, sRetO, sNext, sExpr, wTest, w1, w2, wVar, valOf, Env.at, Env.put, wOD, wLst, wTup, waNil, waCons, waStar, wC, wCall, wCallB, wIf, DL.wTru, truD, wAnd, wOr, DL.wNot, wAndV, wOrV, wNotV, List.map, List.length, List.replicate, List.replicate_succ, List.replicate_zero, DL.putK, OD.toD, o2I, o2I0, addD, mulD, ixD, lenL, lenD, intL, absL, maxL, minL, divmodL, tupleL, blOf, intOf, lstD, tupD, seqOf, outOf, List.tail, Nat.reduceAdd, Nat.reduceSub, wrNil, wrV, wrO, wCallR, wCallRO, takeA, takeK, backA, isOwn, Sl.asD, Sl.asO, spK, noInsO, sAugIx, modL, wIxB, lstOf, wTruB, bor, sExtO, wRep, wSl, wSlB, wCat, wListOf, wpNone, wpSome, DL.isScal, sFor, wRng1, wRng2, gN, gTupD, gConsD, gNilD, sAsg, sPar, parK, wnNil, wnV, wnO, sRetN, ownL, wIsi, isiL, isiD, eqD, neD, wComp, sAug, wGet, isC, wFld, fldD, wMeth, insD, madeK, wrDef, wMut, sRetB, List.nil_append, List.cons_append, DL.D.ty, seqD, gFld, modI, wEnum, wRev1, sumL, allL, anyL, sFreeze, frK, wIter, wIterT, wMake, wBm, idxL, sTry, exmD, sRaise, wEqO, wChain, wDNew, sSetK, modK, dicOf, wDGetB, wDGet, dicD, wDInB, wDGet2B, sAugK, keyD, wOfK, wOfKB, fCopy, fKeys, fSorted, wSortL, wDc, wKeys, wItems, wVals, sForL, noEx, eqK, neK, eqT, neT, ltT, wRng3, kD, N_Rule___init__]
    rw [ep]
    refine ⟨fun z => by (cases z), fun _ => ⟨ll, ?_⟩⟩
    rw [List.append_nil]
    refine forGo_inv (fun ds ρ => ∃ (i : Nat) (zs : List (Int × Int)) (s t : Sl), ds = enumD i (zs.map pairD) ∧ ρ = [.own (.ins C dx [] []), _, _, s, t] ∧ noIns s ∧ noIns t ∧ ∀ x ∈ zs, PairV x) (fun d ds ρ hI P hP => ?_) (fun ρ hI => ?_) _ _ ⟨0, f ++ p, .no, .no, by rw [List.map_append], rfl, trivial, trivial, hv⟩
    · obtain ⟨i, zs, s, t, e, rfl, hs, ht, hz⟩ := hI
      cases zs with
      | nil => cases e
      | cons z zs =>
        obtain ⟨rfl, rfl⟩ := List.cons.inj e
        refine ⟨rfl, putK_intro (by simp) hs (putK_intro (by simp [Env.put_len]) ht ⟨rfl, ?_⟩)⟩
        dsimp only [sSeq, sIf, sSet, sSetO, sRet, sRetO, sNext, sExpr, wTest, w1, w2, wVar, valOf, Env.at, Env.put, wOD, wLst, wTup, waNil, waCons, waStar, wC, wCall, wCallB, wIf, DL.wTru, truD, wAnd, wOr, DL.wNot, wAndV, wOrV, wNotV, List.map, List.length, List.replicate, List.replicate_succ, List.replicate_zero, DL.putK, OD.toD, o2I, o2I0, addD, mulD, ixD, lenL, lenD, intL, absL, maxL, minL, divmodL, tupleL, blOf, intOf, lstD, tupD, seqOf, outOf, List.tail, Nat.reduceAdd, Nat.reduceSub, wrNil, wrV, wrO, wCallR, wCallRO, takeA, takeK, backA, isOwn, Sl.asD, Sl.asO, spK, noInsO, sAugIx, modL, wIxB, lstOf, wTruB, bor, sExtO, wRep, wSl, wSlB, wCat, wListOf, wpNone, wpSome, DL.isScal, sFor, wRng1, wRng2, gN, gTupD, gConsD, gNilD, sAsg, sPar, parK, wnNil, wnV, wnO, sRetN, ownL, wIsi, isiL, isiD, eqD, neD, wComp, sAug, wGet, isC, wFld, fldD, wMeth, insD, madeK, wrDef, wMut, sRetB, List.nil_append, List.cons_append, DL.D.ty, seqD, gFld, modI, wEnum, wRev1, sumL, allL, anyL, sFreeze, frK, wIter, wIterT, wMake, wBm, idxL, sTry, exmD, sRaise, wEqO, wChain, wDNew, sSetK, modK, dicOf, wDGetB, wDGet, dicD, wDInB, wDGet2B, sAugK, keyD, wOfK, wOfKB, fCopy, fKeys, fSorted, wSortL, wDc, wKeys, wItems, wVals, sForL, noEx, eqK, neK, eqT, neT, ltT, wRng3, kD, N_Rule___init__]
        refine ⟨z, rfl, rfl, hz z List.mem_cons_self, fun d hd => ?_⟩
        subst hd
        exact ⟨fun z => by (cases z), fun _ => hP _ ⟨i + 1, zs, _, _, rfl, rfl, trivial, trivial, fun x hx => hz x (List.mem_cons_of_mem _ hx)⟩⟩
    · obtain ⟨i, zs, s, t, e, rfl, hs, ht, hz⟩ := hI
      dsimp only [sSeq, sIf, sSet, sSetO, sRet, sRetO, sNext, sExpr, wTest, w1, w2, wVar, valOf, Env.at, Env.put, wOD, wLst, wTup, waNil, waCons, waStar, wC, wCall, wCallB, wIf, DL.wTru, truD, wAnd, wOr, DL.wNot, wAndV, wOrV, wNotV, List.map, List.length, List.replicate, List.replicate_succ, List.replicate_zero, DL.putK, OD.toD, o2I, o2I0, addD, mulD, ixD, lenL, lenD, intL, absL, maxL, minL, divmodL, tupleL, blOf, intOf, lstD, tupD, seqOf, outOf, List.tail, Nat.reduceAdd, Nat.reduceSub, wrNil, wrV, wrO, wCallR, wCallRO, takeA, takeK, backA, isOwn, Sl.asD, Sl.asO, spK, noInsO, sAugIx, modL, wIxB, lstOf, wTruB, bor, sExtO, wRep, wSl, wSlB, wCat, wListOf, wpNone, wpSome, DL.isScal, sFor, wRng1, wRng2, gN, gTupD, gConsD, gNilD, sAsg, sPar, parK, wnNil, wnV, wnO, sRetN, ownL, wIsi, isiL, isiD, eqD, neD, wComp, sAug, wGet, isC, wFld, fldD, wMeth, insD, madeK, wrDef, wMut, sRetB, List.nil_append, List.cons_append, DL.D.ty, seqD, gFld, modI, wEnum, wRev1, sumL, allL, anyL, sFreeze, frK, wIter, wIterT, wMake, wBm, idxL, sTry, exmD, sRaise, wEqO, wChain, wDNew, sSetK, modK, dicOf, wDGetB, wDGet, dicD, wDInB, wDGet2B, sAugK, keyD, wOfK, wOfKB, fCopy, fKeys, fSorted, wSortL, wDc, wKeys, wItems, wVals, sForL, noEx, eqK, neK, eqT, neT, ltT, wRng3, kD, N_Rule___init__]
      refine ⟨((false, f), false, p), rfl, rfl, ⟨hf, hp, hl⟩, fun d hd => ?_⟩
      obtain ⟨f', p', rfl, h1, h2, h3⟩ := hd
      exact ⟨rfl, ⟨rfl, by decide, rfl, by decide, rfl, k _ _ ⟨⟨f', p', h1, fun x hx => hv x (h3 x hx)⟩, rfl, rfl, h2⟩⟩⟩
  · refine ⟨(false, f.map pairD), rfl, rfl, trivial, fun d hd => ?_⟩
    subst hd
    rw [lm f hf]
    refine ⟨fun z => by (cases z), fun _ => ?_⟩
    refine ⟨(true, p.map pairD), rfl, rfl, trivial, fun d hd => ?_⟩
    subst hd
    rw [lm p hl]
    refine ⟨fun z => by (cases z), fun _ => ?_⟩
    dsimp only [sSeq, sIf, sSet, sSetO, sRet, sRetO, sNext, sExpr, wTest, w1, w2, wVar, valOf, Env.at, Env.put, wOD, wLst, wTup, waNil, waCons, waStar, wC, wCall, wCallB, wIf, DL.wTru, truD, wAnd, wOr, DL.wNot, wAndV, wOrV, wNotV, List.map, List.length, List.replicate, List.replicate_succ, List.replicate_zero, DL.putK, OD.toD, o2I, o2I0, addD, mulD, ixD, lenL, lenD, intL, absL, maxL, minL, divmodL, tupleL, blOf, intOf, lstD, tupD, seqOf, outOf, List.tail, Nat.reduceAdd, Nat.reduceSub, wrNil, wrV, wrO, wCallR, wCallRO, takeA, takeK, backA, isOwn, Sl.asD, Sl.asO, spK, noInsO, sAugIx, modL, wIxB, lstOf, wTruB, bor, sExtO, wRep, wSl, wSlB, wCat, wListOf, wpNone, wpSome, DL.isScal, sFor, wRng1, wRng2, gN, gTupD, gConsD, gNilD, sAsg, sPar, parK, wnNil, wnV, wnO, sRetN, ownL, wIsi, isiL, isiD, eqD, neD, wComp, sAug, wGet, isC, wFld, fldD, wMeth, insD, madeK, wrDef, wMut, sRetB, List.nil_append, List.cons_append, DL.D.ty, seqD, gFld, modI, wEnum, wRev1, sumL, allL, anyL, sFreeze, frK, wIter, wIterT, wMake, wBm, idxL, sTry, exmD, sRaise, wEqO, wChain, wDNew, sSetK, modK, dicOf, wDGetB, wDGet, dicD, wDInB, wDGet2B, sAugK, keyD, wOfK, wOfKB, fCopy, fKeys, fSorted, wSortL, wDc, wKeys, wItems, wVals, sForL, noEx, eqK, neK, eqT, neT, ltT, wRng3, kD, N_Rule___init__]
    rw [ep]
    refine ⟨fun z => by (cases z), fun _ => ⟨ll, ?_⟩⟩
    rw [List.append_nil]
    refine forGo_inv (fun ds ρ => ∃ (i : Nat) (zs : List (Int × Int)) (s t : Sl), ds = enumD i (zs.map pairD) ∧ ρ = [.own (.ins C dx [] []), _, _, s, t] ∧ noIns s ∧ noIns t ∧ ∀ x ∈ zs, PairV x) (fun d ds ρ hI P hP => ?_) (fun ρ hI => ?_) _ _ ⟨0, f ++ p, .no, .no, by rw [List.map_append], rfl, trivial, trivial, hv⟩
    · obtain ⟨i, zs, s, t, e, rfl, hs, ht, hz⟩ := hI
      cases zs with
      | nil => cases e
      | cons z zs =>
        obtain ⟨rfl, rfl⟩ := List.cons.inj e
        refine ⟨rfl, putK_intro (by simp) hs (putK_intro (by simp [Env.put_len]) ht ⟨rfl, ?_⟩)⟩
        dsimp only [sSeq, sIf, sSet, sSetO, sRet, sRetO, sNext, sExpr, wTest, w1, w2, wVar, valOf, Env.at, Env.put, wOD, wLst, wTup, waNil, waCons, waStar, wC, wCall, wCallB, wIf, DL.wTru, truD, wAnd, wOr, DL.wNot, wAndV, wOrV, wNotV, List.map, List.length, List.replicate, List.replicate_succ, List.replicate_zero, DL.putK, OD.toD, o2I, o2I0, addD, mulD, ixD, lenL, lenD, intL, absL, maxL, minL, divmodL, tupleL, blOf, intOf, lstD, tupD, seqOf, outOf, List.tail, Nat.reduceAdd, Nat.reduceSub, wrNil, wrV, wrO, wCallR, wCallRO, takeA, takeK, backA, isOwn, Sl.asD, Sl.asO, spK, noInsO, sAugIx, modL, wIxB, lstOf, wTruB, bor, sExtO, wRep, wSl, wSlB, wCat, wListOf, wpNone, wpSome, DL.isScal, sFor, wRng1, wRng2, gN, gTupD, gConsD, gNilD, sAsg, sPar, parK, wnNil, wnV, wnO, sRetN, ownL, wIsi, isiL, isiD, eqD, neD, wComp, sAug, wGet, isC, wFld, fldD, wMeth, insD, madeK, wrDef, wMut, sRetB, List.nil_append, List.cons_append, DL.D.ty, seqD, gFld, modI, wEnum, wRev1, sumL, allL, anyL, sFreeze, frK, wIter, wIterT, wMake, wBm, idxL, sTry, exmD, sRaise, wEqO, wChain, wDNew, sSetK, modK, dicOf, wDGetB, wDGet, dicD, wDInB, wDGet2B, sAugK, keyD, wOfK, wOfKB, fCopy, fKeys, fSorted, wSortL, wDc, wKeys, wItems, wVals, sForL, noEx, eqK, neK, eqT, neT, ltT, wRng3, kD, N_Rule___init__]
        refine ⟨z, rfl, rfl, hz z List.mem_cons_self, fun d hd => ?_⟩
        subst hd
        exact ⟨fun z => by (cases z), fun _ => hP _ ⟨i + 1, zs, _, _, rfl, rfl, trivial, trivial, fun x hx => hz x (List.mem_cons_of_mem _ hx)⟩⟩
    · obtain ⟨i, zs, s, t, e, rfl, hs, ht, hz⟩ := hI
      dsimp only [sSeq, sIf, sSet, sSetO, sRet, sRetO, sNext, sExpr, wTest, w1, w2, wVar, valOf, Env.at, Env.put, wOD, wLst, wTup, waNil, waCons, waStar, wC, wCall, wCallB, wIf, DL.wTru, truD, wAnd, wOr, DL.wNot, wAndV, wOrV, wNotV, List.map, List.length, List.replicate, List.replicate_succ, List.replicate_zero, DL.putK, OD.toD, o2I, o2I0, addD, mulD, ixD, lenL, lenD, intL, absL, maxL, minL, divmodL, tupleL, blOf, intOf, lstD, tupD, seqOf, outOf, List.tail, Nat.reduceAdd, Nat.reduceSub, wrNil, wrV, wrO, wCallR, wCallRO, takeA, takeK, backA, isOwn, Sl.asD, Sl.asO, spK, noInsO, sAugIx, modL, wIxB, lstOf, wTruB, bor, sExtO, wRep, wSl, wSlB, wCat, wListOf, wpNone, wpSome, DL.isScal, sFor, wRng1, wRng2, gN, gTupD, gConsD, gNilD, sAsg, sPar, parK, wnNil, wnV, wnO, sRetN, ownL, wIsi, isiL, isiD, eqD, neD, wComp, sAug, wGet, isC, wFld, fldD, wMeth, insD, madeK, wrDef, wMut, sRetB, List.nil_append, List.cons_append, DL.D.ty, seqD, gFld, modI, wEnum, wRev1, sumL, allL, anyL, sFreeze, frK, wIter, wIterT, wMake, wBm, idxL, sTry, exmD, sRaise, wEqO, wChain, wDNew, sSetK, modK, dicOf, wDGetB, wDGet, dicD, wDInB, wDGet2B, sAugK, keyD, wOfK, wOfKB, fCopy, fKeys, fSorted, wSortL, wDc, wKeys, wItems, wVals, sForL, noEx, eqK, neK, eqT, neT, ltT, wRng3, kD, N_Rule___init__]
      refine ⟨((false, f), true, p), rfl, rfl, ⟨hf, hp, hl⟩, fun d hd => ?_⟩
      obtain ⟨f', p', rfl, h1, h2, h3⟩ := hd
      exact ⟨rfl, ⟨rfl, by decide, rfl, by decide, rfl, k _ _ ⟨⟨f', p', h1, fun x hx => hv x (h3 x hx)⟩, rfl, rfl, h2⟩⟩⟩
  · refine ⟨(true, f.map pairD), rfl, rfl, trivial, fun d hd => ?_⟩
    subst hd
    rw [lm f hf]
    refine ⟨fun z => by (cases z), fun _ => ?_⟩
    refine ⟨(false, p.map pairD), rfl, rfl, trivial, fun d hd => ?_⟩
    subst hd
    rw [lm p hl]
    refine ⟨fun z => by (cases z), fun _ => ?_⟩
    dsimp only [sSeq, sIf, sSet, sSetO, sRet, sRetO, sNext, sExpr, wTest, w1, w2, wVar, valOf, Env.at, Env.put, wOD, wLst, wTup, waNil, waCons, waStar, wC, wCall, wCallB, wIf, DL.wTru, truD, wAnd, wOr, DL.wNot, wAndV, wOrV, wNotV, List.map, List.length, List.replicate, List.replicate_succ, List.replicate_zero, DL.putK, OD.toD, o2I, o2I0, addD, mulD, ixD, lenL, lenD, intL, absL, maxL, minL, divmodL, tupleL, blOf, intOf, lstD, tupD, seqOf, outOf, List.tail, Nat.reduceAdd, Nat.reduceSub, wrNil, wrV, wrO, wCallR, wCallRO, takeA, takeK, backA, isOwn, Sl.asD, Sl.asO, spK, noInsO, sAugIx, modL, wIxB, lstOf, wTruB, bor, sExtO, wRep, wSl, wSlB, wCat, wListOf, wpNone, wpSome, DL.isScal, sFor, wRng1, wRng2, gN, gTupD, gConsD, gNilD, sAsg, sPar, parK, wnNil, wnV, wnO, sRetN, ownL, wIsi, isiL, isiD, eqD, neD, wComp, sAug, wGet, isC, wFld, fldD, wMeth, insD, madeK, wrDef, wMut, sRetB, List.nil_append, List.cons_append, DL.D.ty, seqD, gFld, modI, wEnum, wRev1, sumL, allL, anyL, sFreeze, frK, wIter, wIterT, wMake, wBm, idxL, sTry, exmD, sRaise, wEqO, wChain, wDNew, sSetK, modK, dicOf, wDGetB, wDGet, dicD, wDInB, wDGet2B, sAugK, keyD, wOfK, wOfKB, fCopy, fKeys, fSorted, wSortL, wDc, wKeys, wItems, wVals, sForL, noEx, eqK, neK, eqT, neT, ltT, wRng3, kD, N_Rule___init__]
    rw [ep]
    refine ⟨fun z => by (cases z), fun _ => ⟨ll, ?_⟩⟩
    rw [List.append_nil]
    refine forGo_inv (fun ds ρ => ∃ (i : Nat) (zs : List (Int × Int)) (s t : Sl), ds = enumD i (zs.map pairD) ∧ ρ = [.own (.ins C dx [] []), _, _, s, t] ∧ noIns s ∧ noIns t ∧ ∀ x ∈ zs, PairV x) (fun d ds ρ hI P hP => ?_) (fun ρ hI => ?_) _ _ ⟨0, f ++ p, .no, .no, by rw [List.map_append], rfl, trivial, trivial, hv⟩
    · obtain ⟨i, zs, s, t, e, rfl, hs, ht, hz⟩ := hI
      cases zs with
      | nil => cases e
      | cons z zs =>
        obtain ⟨rfl, rfl⟩ := List.cons.inj e
        refine ⟨rfl, putK_intro (by simp) hs (putK_intro (by simp [Env.put_len]) ht ⟨rfl, ?_⟩)⟩
        dsimp only [sSeq, sIf, sSet, sSetO, sRet, sRetO, sNext, sExpr, wTest, w1, w2, wVar, valOf, Env.at, Env.put, wOD, wLst, wTup, waNil, waCons, waStar, wC, wCall, wCallB, wIf, DL.wTru, truD, wAnd, wOr, DL.wNot, wAndV, wOrV, wNotV, List.map, List.length, List.replicate, List.replicate_succ, List.replicate_zero, DL.putK, OD.toD, o2I, o2I0, addD, mulD, ixD, lenL, lenD, intL, absL, maxL, minL, divmodL, tupleL, blOf, intOf, lstD, tupD, seqOf, outOf, List.tail, Nat.reduceAdd, Nat.reduceSub, wrNil, wrV, wrO, wCallR, wCallRO, takeA, takeK, backA, isOwn, Sl.asD, Sl.asO, spK, noInsO, sAugIx, modL, wIxB, lstOf, wTruB, bor, sExtO, wRep, wSl, wSlB, wCat, wListOf, wpNone, wpSome, DL.isScal, sFor, wRng1, wRng2, gN, gTupD, gConsD, gNilD, sAsg, sPar, parK, wnNil, wnV, wnO, sRetN, ownL, wIsi, isiL, isiD, eqD, neD, wComp, sAug, wGet, isC, wFld, fldD, wMeth, insD, madeK, wrDef, wMut, sRetB, List.nil_append, List.cons_append, DL.D.ty, seqD, gFld, modI, wEnum, wRev1, sumL, allL, anyL, sFreeze, frK, wIter, wIterT, wMake, wBm, idxL, sTry, exmD, sRaise, wEqO, wChain, wDNew, sSetK, modK, dicOf, wDGetB, wDGet, dicD, wDInB, wDGet2B, sAugK, keyD, wOfK, wOfKB, fCopy, fKeys, fSorted, wSortL, wDc, wKeys, wItems, wVals, sForL, noEx, eqK, neK, eqT, neT, ltT, wRng3, kD, N_Rule___init__]
        refine ⟨z, rfl, rfl, hz z List.mem_cons_self, fun d hd => ?_⟩
        subst hd
        exact ⟨fun z => by (cases z), fun _ => hP _ ⟨i + 1, zs, _, _, rfl, rfl, trivial, trivial, fun x hx => hz x (List.mem_cons_of_mem _ hx)⟩⟩
    · obtain ⟨i, zs, s, t, e, rfl, hs, ht, hz⟩ := hI
      dsimp only [sSeq, sIf, sSet, sSetO, sRet, sRetO, sNext, sExpr, wTest, w1, w2, wVar, valOf, Env.at, Env.put, wOD, wLst, wTup, waNil, waCons, waStar, wC, wCall, wCallB, wIf, DL.wTru, truD, wAnd, wOr, DL.wNot, wAndV, wOrV, wNotV, List.map, List.length, List.replicate, List.replicate_succ, List.replicate_zero, DL.putK, OD.toD, o2I, o2I0, addD, mulD, ixD, lenL, lenD, intL, absL, maxL, minL, divmodL, tupleL, blOf, intOf, lstD, tupD, seqOf, outOf, List.tail, Nat.reduceAdd, Nat.reduceSub, wrNil, wrV, wrO, wCallR, wCallRO, takeA, takeK, backA, isOwn, Sl.asD, Sl.asO, spK, noInsO, sAugIx, modL, wIxB, lstOf, wTruB, bor, sExtO, wRep, wSl, wSlB, wCat, wListOf, wpNone, wpSome, DL.isScal, sFor, wRng1, wRng2, gN, gTupD, gConsD, gNilD, sAsg, sPar, parK, wnNil, wnV, wnO, sRetN, ownL, wIsi, isiL, isiD, eqD, neD, wComp, sAug, wGet, isC, wFld, fldD, wMeth, insD, madeK, wrDef, wMut, sRetB, List.nil_append, List.cons_append, DL.D.ty, seqD, gFld, modI, wEnum, wRev1, sumL, allL, anyL, sFreeze, frK, wIter, wIterT, wMake, wBm, idxL, sTry, exmD, sRaise, wEqO, wChain, wDNew, sSetK, modK, dicOf, wDGetB, wDGet, dicD, wDInB, wDGet2B, sAugK, keyD, wOfK, wOfKB, fCopy, fKeys, fSorted, wSortL, wDc, wKeys, wItems, wVals, sForL, noEx, eqK, neK, eqT, neT, ltT, wRng3, kD, N_Rule___init__]
      refine ⟨((true, f), false, p), rfl, rfl, ⟨hf, hp, hl⟩, fun d hd => ?_⟩
      obtain ⟨f', p', rfl, h1, h2, h3⟩ := hd
      exact ⟨rfl, ⟨rfl, by decide, rfl, by decide, rfl, k _ _ ⟨⟨f', p', h1, fun x hx => hv x (h3 x hx)⟩, rfl, rfl, h2⟩⟩⟩
  · refine ⟨(true, f.map pairD), rfl, rfl, trivial, fun d hd => ?_⟩
    subst hd
    rw [lm f hf]
    refine ⟨fun z => by (cases z), fun _ => ?_⟩
    refine ⟨(true, p.map pairD), rfl, rfl, trivial, fun d hd => ?_⟩
    subst hd
    rw [lm p hl]
    refine ⟨fun z => by (cases z), fun _ => ?_⟩
    dsimp only [sSeq, sIf, sSet, sSetO, sRet, sRetO, sNext, sExpr, wTest, w1, w2, wVar, valOf, Env.at, Env.put, wOD, wLst, wTup, waNil, waCons, waStar, wC, wCall, wCallB, wIf, DL.wTru, truD, wAnd, wOr, DL.wNot, wAndV, wOrV, wNotV, List.map, List.length, List.replicate, List.replicate_succ, List.replicate_zero, DL.putK, OD.toD, o2I, o2I0, addD, mulD, ixD, lenL, lenD, intL, absL, maxL, minL, divmodL, tupleL, blOf, intOf, lstD, tupD, seqOf, outOf, List.tail, Nat.reduceAdd, Nat.reduceSub, wrNil, wrV, wrO, wCallR, wCallRO, takeA, takeK, backA, isOwn, Sl.asD, Sl.asO, spK, noInsO, sAugIx, modL, wIxB, lstOf, wTruB, bor, sExtO, wRep, wSl, wSlB, wCat, wListOf, wpNone, wpSome, DL.isScal, sFor, wRng1, wRng2, gN, gTupD, gConsD, gNilD, sAsg, sPar, parK, wnNil, wnV, wnO, sRetN, ownL, wIsi, isiL, isiD, eqD, neD, wComp, sAug, wGet, isC, wFld, fldD, wMeth, insD, madeK, wrDef, wMut, sRetB, List.nil_append, List.cons_append, DL.D.ty, seqD, gFld, modI, wEnum, wRev1, sumL, allL, anyL, sFreeze, frK, wIter, wIterT, wMake, wBm, idxL, sTry, exmD, sRaise, wEqO, wChain, wDNew, sSetK, modK, dicOf, wDGetB, wDGet, dicD, wDInB, wDGet2B, sAugK, keyD, wOfK, wOfKB, fCopy, fKeys, fSorted, wSortL, wDc, wKeys, wItems, wVals, sForL, noEx, eqK, neK, eqT, neT, ltT, wRng3, kD, N_Rule___init__]
    rw [ep]
    refine ⟨fun z => by (cases z), fun _ => ⟨ll, ?_⟩⟩
    rw [List.append_nil]
    refine forGo_inv (fun ds ρ => ∃ (i : Nat) (zs : List (Int × Int)) (s t : Sl), ds = enumD i (zs.map pairD) ∧ ρ = [.own (.ins C dx [] []), _, _, s, t] ∧ noIns s ∧ noIns t ∧ ∀ x ∈ zs, PairV x) (fun d ds ρ hI P hP => ?_) (fun ρ hI => ?_) _ _ ⟨0, f ++ p, .no, .no, by rw [List.map_append], rfl, trivial, trivial, hv⟩
    · obtain ⟨i, zs, s, t, e, rfl, hs, ht, hz⟩ := hI
      cases zs with
      | nil => cases e
      | cons z zs =>
        obtain ⟨rfl, rfl⟩ := List.cons.inj e
        refine ⟨rfl, putK_intro (by simp) hs (putK_intro (by simp [Env.put_len]) ht ⟨rfl, ?_⟩)⟩
        dsimp only [sSeq, sIf, sSet, sSetO, sRet, sRetO, sNext, sExpr, wTest, w1, w2, wVar, valOf, Env.at, Env.put, wOD, wLst, wTup, waNil, waCons, waStar, wC, wCall, wCallB, wIf, DL.wTru, truD, wAnd, wOr, DL.wNot, wAndV, wOrV, wNotV, List.map, List.length, List.replicate, List.replicate_succ, List.replicate_zero, DL.putK, OD.toD, o2I, o2I0, addD, mulD, ixD, lenL, lenD, intL, absL, maxL, minL, divmodL, tupleL, blOf, intOf, lstD, tupD, seqOf, outOf, List.tail, Nat.reduceAdd, Nat.reduceSub, wrNil, wrV, wrO, wCallR, wCallRO, takeA, takeK, backA, isOwn, Sl.asD, Sl.asO, spK, noInsO, sAugIx, modL, wIxB, lstOf, wTruB, bor, sExtO, wRep, wSl, wSlB, wCat, wListOf, wpNone, wpSome, DL.isScal, sFor, wRng1, wRng2, gN, gTupD, gConsD, gNilD, sAsg, sPar, parK, wnNil, wnV, wnO, sRetN, ownL, wIsi, isiL, isiD, eqD, neD, wComp, sAug, wGet, isC, wFld, fldD, wMeth, insD, madeK, wrDef, wMut, sRetB, List.nil_append, List.cons_append, DL.D.ty, seqD, gFld, modI, wEnum, wRev1, sumL, allL, anyL, sFreeze, frK, wIter, wIterT, wMake, wBm, idxL, sTry, exmD, sRaise, wEqO, wChain, wDNew, sSetK, modK, dicOf, wDGetB, wDGet, dicD, wDInB, wDGet2B, sAugK, keyD, wOfK, wOfKB, fCopy, fKeys, fSorted, wSortL, wDc, wKeys, wItems, wVals, sForL, noEx, eqK, neK, eqT, neT, ltT, wRng3, kD, N_Rule___init__]
        refine ⟨z, rfl, rfl, hz z List.mem_cons_self, fun d hd => ?_⟩
        subst hd
        exact ⟨fun z => by (cases z), fun _ => hP _ ⟨i + 1, zs, _, _, rfl, rfl, trivial, trivial, fun x hx => hz x (List.mem_cons_of_mem _ hx)⟩⟩
    · obtain ⟨i, zs, s, t, e, rfl, hs, ht, hz⟩ := hI
      dsimp only [sSeq, sIf, sSet, sSetO, sRet, sRetO, sNext, sExpr, wTest, w1, w2, wVar, valOf, Env.at, Env.put, wOD, wLst, wTup, waNil, waCons, waStar, wC, wCall, wCallB, wIf, DL.wTru, truD, wAnd, wOr, DL.wNot, wAndV, wOrV, wNotV, List.map, List.length, List.replicate, List.replicate_succ, List.replicate_zero, DL.putK, OD.toD, o2I, o2I0, addD, mulD, ixD, lenL, lenD, intL, absL, maxL, minL, divmodL, tupleL, blOf, intOf, lstD, tupD, seqOf, outOf, List.tail, Nat.reduceAdd, Nat.reduceSub, wrNil, wrV, wrO, wCallR, wCallRO, takeA, takeK, backA, isOwn, Sl.asD, Sl.asO, spK, noInsO, sAugIx, modL, wIxB, lstOf, wTruB, bor, sExtO, wRep, wSl, wSlB, wCat, wListOf, wpNone, wpSome, DL.isScal, sFor, wRng1, wRng2, gN, gTupD, gConsD, gNilD, sAsg, sPar, parK, wnNil, wnV, wnO, sRetN, ownL, wIsi, isiL, isiD, eqD, neD, wComp, sAug, wGet, isC, wFld, fldD, wMeth, insD, madeK, wrDef, wMut, sRetB, List.nil_append, List.cons_append, DL.D.ty, seqD, gFld, modI, wEnum, wRev1, sumL, allL, anyL, sFreeze, frK, wIter, wIterT, wMake, wBm, idxL, sTry, exmD, sRaise, wEqO, wChain, wDNew, sSetK, modK, dicOf, wDGetB, wDGet, dicD, wDInB, wDGet2B, sAugK, keyD, wOfK, wOfKB, fCopy, fKeys, fSorted, wSortL, wDc, wKeys, wItems, wVals, sForL, noEx, eqK, neK, eqT, neT, ltT, wRng3, kD, N_Rule___init__]
      refine ⟨((true, f), true, p), rfl, rfl, ⟨hf, hp, hl⟩, fun d hd => ?_⟩
      obtain ⟨f', p', rfl, h1, h2, h3⟩ := hd
      exact ⟨rfl, ⟨rfl, by decide, rfl, by decide, rfl, k _ _ ⟨⟨f', p', h1, fun x hx => hv x (h3 x hx)⟩, rfl, rfl, h2⟩⟩⟩

theorem cal_Rule {f : Addr} {fd : FuncData} (F : Fun K "__init__" "Rule.__init__" s_Rule___init__ f fd) (M : Mk K C f) (B : Bl K mg C A_Weights) (R_Rule : RuleS K mg C) (R_Weights : WeightsS K mg A_Weights) (E_SiltError : ErrS K mg "SiltError" X_SiltError) (E_BadDay : ErrS K mg "BadDay" X_BadDay) (E_BadWeights : ErrS K mg "BadWeights" X_BadWeights) (C_is_part : Cal P w K mg base 1 "is_part" P_is_part sp_is_part) (C_is_pair : Cal P w K mg base 2 "is_pair" P_is_pair sp_is_pair) (C_shortest : Cal P w K mg base 2 "shortest" P_shortest (sp_shortest (Int×Int))) : CalN P w K mg base C "Rule" 4 P_Rule___init__ (sp_Rule___init__ C) :=
  ⟨⟨f, fd, ok_Rule___init__ F B R_Rule R_Weights E_SiltError E_BadDay E_BadWeights C_is_part C_is_pair C_shortest, M, F.binds (ps := P_Rule___init__) fun _ _ _ _ _ _ us hl => match us, hl with | [_, _, _], _ => rfl⟩, R_Rule.mg, mono_spIF⟩
end L53
set_option Elab.async false
set_option linter.all false
set_option maxRecDepth 100000
set_option maxHeartbeats 0
namespace L53
open PySem L2 DL
variable {P : Program} {w : World} {K : PySem.W.Frag} {mg : Str → Option Value} {base : Heap} {C A_Weights X_SiltError X_BadDay X_BadWeights : Addr}

theorem bakesR_neg (p : Int × Int) (h : PairV p) {n : Int} (hn : n ≤ 0) : bakesR p n = 0 := by
  unfold bakesR
  have h1 := h.lo; have h2 := h.le
  have : (n - p.1 + p.2) / p.2 ≤ 0 := by
    have : (n - p.1 + p.2) / p.2 ≤ 0 / p.2 := Int.ediv_le_ediv (by omega) (by omega)
    simpa using this
  omega
def bakedF (r : Ru) : Nat → Nat → Int → List Int
  | 0, _, _ => []
  | k + 1, g, n => if bakesR (r.at g) n > bakesR (r.at g) (n - 1) then (g : Int) :: bakedF r k (g + 1) (bakesR (r.at g) n) else []
theorem bakedF_same (r : Ru) : ∀ (k k' g : Nat) (n : Int), n ≤ k → n ≤ k' → bakedF r k g n = bakedF r k' g n
  | 0, 0, _, _, _, _ => rfl
  | 0, k' + 1, g, n, h, _ => by
    unfold bakedF
    rw [if_neg (by rw [bakesR_neg _ (r.at_ok g) (by omega), bakesR_neg _ (r.at_ok g) (by omega)]; omega)]
  | k + 1, 0, g, n, _, h => by
    unfold bakedF
    rw [if_neg (by rw [bakesR_neg _ (r.at_ok g) (by omega), bakesR_neg _ (r.at_ok g) (by omega)]; omega)]
  | k + 1, k' + 1, g, n, h, h' => by
    unfold bakedF
    by_cases hc : bakesR (r.at g) n > bakesR (r.at g) (n - 1)
    · rw [if_pos hc, if_pos hc]
      have hn : 0 < n := by
        by_cases z : n ≤ 0
        · rw [bakesR_neg _ (r.at_ok g) z, bakesR_neg _ (r.at_ok g) (by omega)] at hc; omega
        · omega
      have := bakesR_lt (r.at_ok g) hn
      rw [bakedF_same r k k' (g + 1) _ (by omega) (by omega)]
    · rw [if_neg hc, if_neg hc]
/-- the grades from g on that are baked as the n-th layer of the grade g comes -/
def bakedR (r : Ru) (g : Nat) (n : Int) : List Int := bakedF r n.toNat g n
theorem bakedR_eq (r : Ru) (g : Nat) (n : Int) : bakedR r g n = if bakesR (r.at g) n > bakesR (r.at g) (n - 1) then (g : Int) :: bakedR r (g + 1) (bakesR (r.at g) n) else [] := by
  unfold bakedR
  rw [bakedF_same r n.toNat (n.toNat + 1) g n (by omega) (by omega)]
  show (if _ then _ else _) = _
  by_cases hc : bakesR (r.at g) n > bakesR (r.at g) (n - 1)
  · rw [if_pos hc, if_pos hc]
    have hn : 0 < n := by
      by_cases z : n ≤ 0
      · rw [bakesR_neg _ (r.at_ok g) z, bakesR_neg _ (r.at_ok g) (by omega)] at hc; omega
      · omega
    have := bakesR_lt (r.at_ok g) hn
    have := bakesR_nn (r.at g) n
    rw [bakedF_same r n.toNat (bakesR (r.at g) n).toNat (g + 1) _ (by omega) (by omega)]
  · rw [if_neg hc, if_neg hc]
/-- few grades only are there -/
theorem few_of {b n : Int} {g : Nat} (hp : 0 < b) (hb : b * 2 ^ g ≤ n) (h2 : n < 2 ^ 1000) : g < 1000 := by
  have h3 : (2 : Int) ^ g ≤ b * 2 ^ g := by
    have : (1 : Int) * 2 ^ g ≤ b * 2 ^ g := Int.mul_le_mul_of_nonneg_right (by omega) (Int.le_of_lt (Int.pow_pos (by decide)))
    omega
  have h4 : (2 : Int) ^ g < 2 ^ 1000 := by omega
  have h5 : (2 : Nat) ^ g < 2 ^ 1000 := by exact_mod_cast h4
  exact (Nat.pow_lt_pow_iff_right (by decide)).mp h5
theorem half_of {b n : Int} {g : Nat} {p : Int × Int} (ok : PairV p) (b0 : 0 ≤ b) (hb : b * 2 ^ g ≤ n) : bakesR p b * 2 ^ (g + 1) ≤ n := by
  have h6 := bakesR_half ok (n := b) (by omega)
  rw [Int.pow_succ, Int.mul_comm (2 ^ g) 2, ← Int.mul_assoc]
  have : bakesR p b * 2 * 2 ^ g ≤ b * 2 ^ g := Int.mul_le_mul_of_nonneg_right h6 (Int.le_of_lt (Int.pow_pos (by decide)))
  omega


def sp_baked (C : Addr) : SpD := spFO 2 (fun (a : Ru × Int) => [ruleD C a.1, .int a.2]) (fun a => 0 ≤ a.2 ∧ a.2 < 2 ^ 1000) (fun a xs => xs = (bakedR a.1 0 a.2).map .int)

abbrev s_baked : Stmt := top 32
def N_baked : List Str := ["rule", "day", "grades", "many"]
def P_baked : List Str := ["rule", "day"]
theorem sc_baked : FnScope N_baked P_baked (defScope s_baked) := ⟨rfl, rfl, rfl, by decide +kernel, rfl, by decide +kernel, by decide +kernel⟩
theorem ok_baked {f : Addr} {fd : FuncData} (F : Fun K "baked" "baked" s_baked f fd) (B : Bl K mg C A_Weights) (R_Rule : RuleS K mg C) (R_Weights : WeightsS K mg A_Weights) (E_SiltError : ErrS K mg "SiltError" X_SiltError) (E_BadDay : ErrS K mg "BadDay" X_BadDay) (E_BadWeights : ErrS K mg "BadWeights" X_BadWeights) (C_Rule___getitem__ : CalG P w K mg base C 2 P_Rule___getitem__ (sp_Rule___getitem__ C)) (C_need_rule : Cal P w K mg base 1 "need_rule" P_need_rule (sp_need_rule C)) (C_need_number : CalD P w K mg base 2 "need_number" P_need_number sp_need_number [.int 0]) (C_times_baked : Cal P w K mg base 1 "times_baked" P_times_baked sp_times_baked) : FnOk P w K mg base (L2.CX P w) 6 f fd P_baked (spOf K (sp_baked C)) := by
  refine fn_ok F sc_baked len_spFO (io := []) io_spFO (fun cdv A outer sh H E hr =>
 (db_cons (ds_expr (de_c C_need_rule (hr.mono (by decide)) (by rfl) (takes_of rfl rfl rfl rfl) (dr_v (de_var 0 (pv 0)) dr_nil)))
 (db_cons (ds_expr (de_cd C_need_number (hr.mono (by decide)) (by rfl) (takes_of rfl rfl rfl rfl) (dr_v (de_var 1 (pv 1)) dr_nil)))
 (db_cons (ds_par (i := 2) (j := 3) rfl sc_baked.nd (by rfl) (by rfl) (by decide) (show (_ : Nat) ∉ ([] : List Nat) by decide) (show (_ : Nat) ∉ ([] : List Nat) by decide) (by rfl) (by rfl) (dn_o (do_lst da_nil) (dn_v (de_var 1 (pv 1)) dn_nil)))
 (db_cons (ds_while (passes_of rfl) (dt_cmp op_gt (ops_I0 fun _ _ _ => .bl _) (de_c C_times_baked (hr.mono (by decide)) (by rfl) (takes_of rfl rfl rfl rfl) (dr_v (de_g C_Rule___getitem__ (de_var 0 (pv 0)) (de_callBB 2 call_len len_s (by rfl) B.len (by rfl) (pv 2)) (hr.mono (by decide)) (takes_of rfl rfl rfl rfl)) (dr_v (de_var 3 (pv 3)) dr_nil))) (de_c C_times_baked (hr.mono (by decide)) (by rfl) (takes_of rfl rfl rfl rfl) (dr_v (de_g C_Rule___getitem__ (de_var 0 (pv 0)) (de_callBB 2 call_len len_s (by rfl) B.len (by rfl) (pv 2)) (hr.mono (by decide)) (takes_of rfl rfl rfl rfl)) (dr_v (de_sub (de_var 3 (pv 3)) de_int) dr_nil))) (nomark _)) (db_cons (ds_set (i := 3) (show (_ : Nat) ∉ ([] : List Nat) by decide) sc_baked.nd (by rfl) (.inl rfl) (de_c C_times_baked (hr.mono (by decide)) (by rfl) (takes_of rfl rfl rfl rfl) (dr_v (de_g C_Rule___getitem__ (de_var 0 (pv 0)) (de_callBB 2 call_len len_s (by rfl) B.len (by rfl) (pv 2)) (hr.mono (by decide)) (takes_of rfl rfl rfl rfl)) (dr_v (de_var 3 (pv 3)) dr_nil))))
 (db_one (ds_expr (de_append 2 (pv 2) (de_callBB 2 call_len len_s (by rfl) B.len (by rfl) (pv 2)))))))
 (db_one (ds_retB 2 (pv 2)))))))) ?_

  rintro ins Q R ⟨⟨r, n⟩, rfl, l, ⟨h1, h2⟩, k⟩
  dsimp only [sSeq, sIf, sSet, sSetO, sRet, sRetO, sNext, sExpr, wTest, w1, w2, wVar, valOf, Env.at, Env.put, wOD, wLst, wTup, waNil, waCons, waStar, wC, wCall, wCallB, wIf, DL.wTru, truD, wAnd, wOr, DL.wNot, wAndV, wOrV, wNotV, List.map, List.length, List.replicate, List.replicate_succ, List.replicate_zero, DL.putK, OD.toD, o2I, o2I0, addD, mulD, ixD, lenL, lenD, intL, absL, maxL, minL, divmodL, tupleL, blOf, intOf, lstD, tupD, seqOf, outOf, List.tail, Nat.reduceAdd, Nat.reduceSub, wrNil, wrV, wrO, wCallR, wCallRO, takeA, takeK, backA, isOwn, Sl.asD, Sl.asO, spK, noInsO, sAugIx, modL, wIxB, lstOf, wTruB, bor, sExtO, wRep, wSl, wSlB, wCat, wListOf, wpNone, wpSome, DL.isScal, sFor, wRng1, wRng2, gN, gTupD, gConsD, gNilD, sAsg, sPar, parK, wnNil, wnV, wnO, sRetN, ownL, wIsi, isiL, isiD, eqD, neD, wComp, sAug, wGet, isC, wFld, fldD, wMeth, insD, madeK, wrDef, wMut, sRetB, List.nil_append, List.cons_append, DL.D.ty, seqD, gFld, modI, wEnum, wRev1, sumL, allL, anyL, sFreeze, frK, wIter, wIterT, wMake, wBm, idxL, sTry, exmD, sRaise, wEqO, wChain, wDNew, sSetK, modK, dicOf, wDGetB, wDGet, dicD, wDInB, wDGet2B, sAugK, keyD, wOfK, wOfKB, fCopy, fKeys, fSorted, wSortL, wDc, wKeys, wItems, wVals, sForL, noEx, eqK, neK, eqT, neT, ltT, wRng3, kD, N_baked] at h1 h2 k ⊢
  refine ⟨r, rfl, rfl, trivial, fun d hd => ?_⟩
  subst hd
  refine ⟨(n, 0), rfl, rfl, h1, fun d hd => ?_⟩
  subst hd
  refine ⟨by decide, trivial, rfl, ?_⟩
  refine ⟨fun m ρ => ∃ (b : Int) (acc : List D), ρ = [.v (ruleD C r), .v (.int n), .own (.lst acc), .v (.int b)] ∧ m = b.toNat ∧ 0 ≤ b ∧ b * 2 ^ acc.length ≤ n ∧ acc ++ (bakedR r acc.length b).map .int = (bakedR r 0 n).map .int,
    ⟨_, n, [], rfl, rfl, h1, by simp, rfl⟩, fun m ρ hI => ?_⟩
  obtain ⟨b, acc, rfl, rfl, b0, hb, he⟩ := hI
  dsimp only [sSeq, sIf, sSet, sSetO, sRet, sRetO, sNext, sExpr, wTest, w1, w2, wVar, valOf, Env.at, Env.put, wOD, wLst, wTup, waNil, waCons, waStar, wC, wCall, wCallB, wIf, DL.wTru, truD, wAnd, wOr, DL.wNot, wAndV, wOrV, wNotV, List.map, List.length, List.replicate, List.replicate_succ, List.replicate_zero, DL.putK, OD.toD, o2I, o2I0, addD, mulD, ixD, lenL, lenD, intL, absL, maxL, minL, divmodL, tupleL, blOf, intOf, lstD, tupD, seqOf, outOf, List.tail, Nat.reduceAdd, Nat.reduceSub, wrNil, wrV, wrO, wCallR, wCallRO, takeA, takeK, backA, isOwn, Sl.asD, Sl.asO, spK, noInsO, sAugIx, modL, wIxB, lstOf, wTruB, bor, sExtO, wRep, wSl, wSlB, wCat, wListOf, wpNone, wpSome, DL.isScal, sFor, wRng1, wRng2, gN, gTupD, gConsD, gNilD, sAsg, sPar, parK, wnNil, wnV, wnO, sRetN, ownL, wIsi, isiL, isiD, eqD, neD, wComp, sAug, wGet, isC, wFld, fldD, wMeth, insD, madeK, wrDef, wMut, sRetB, List.nil_append, List.cons_append, DL.D.ty, seqD, gFld, modI, wEnum, wRev1, sumL, allL, anyL, sFreeze, frK, wIter, wIterT, wMake, wBm, idxL, sTry, exmD, sRaise, wEqO, wChain, wDNew, sSetK, modK, dicOf, wDGetB, wDGet, dicD, wDInB, wDGet2B, sAugK, keyD, wOfK, wOfKB, fCopy, fKeys, fSorted, wSortL, wDc, wKeys, wItems, wVals, sForL, noEx, eqK, neK, eqT, neT, ltT, wRng3, kD, N_baked]
  have ok := r.at_ok acc.length
  refine ⟨rfl, rfl, (r, acc.length), rfl, rfl, trivial, fun d hd => ?_⟩
  subst hd
  refine ⟨(r.at acc.length, b), rfl, rfl, ok, fun d hd => ?_⟩
  subst hd
  refine ⟨rfl, rfl, (r, acc.length), rfl, rfl, trivial, fun d hd => ?_⟩
  subst hd
  refine ⟨(r.at acc.length, b - 1), rfl, rfl, ok, fun d hd => ?_⟩
  subst hd
  rw [bakedR_eq] at he
  refine ⟨fun h => ?_, fun h => ?_⟩
  · have h : bakesR (r.at acc.length) b > bakesR (r.at acc.length) (b - 1) := by simpa using h
    rw [if_pos h] at he
    have hp : 0 < b := by
      by_cases z : b ≤ 0
      · rw [bakesR_neg _ ok z, bakesR_neg _ ok (by omega)] at h; omega
      · omega
    have lg := few_of hp hb h2
    refine ⟨rfl, rfl, (r, acc.length), rfl, rfl, trivial, fun d hd => ?_⟩
    subst hd
    refine ⟨(r.at acc.length, b), rfl, rfl, ok, fun d hd => ?_⟩
    subst hd
    have bl := bakesR_lt ok hp
    refine ⟨trivial, rfl, _, rfl, by show acc.length < 16777216; omega, (bakesR (r.at acc.length) b).toNat, by omega, bakesR (r.at acc.length) b, acc ++ [D.int acc.length], rfl, rfl, bakesR_nn _ _, ?_, ?_⟩
    · rw [List.length_append]; exact half_of ok b0 hb
    · rw [← he, List.length_append, List.append_assoc]; rfl
  · have h : ¬ bakesR (r.at acc.length) b > bakesR (r.at acc.length) (b - 1) := by simpa using h
    rw [if_neg h] at he
    have he : acc = (bakedR r 0 n).map .int := by simpa using he
    exact ⟨trivial, k _ he⟩

theorem cal_baked {f : Addr} {fd : FuncData} (F : Fun K "baked" "baked" s_baked f fd) (hm : mg "baked" = some (.ref f)) (B : Bl K mg C A_Weights) (R_Rule : RuleS K mg C) (R_Weights : WeightsS K mg A_Weights) (E_SiltError : ErrS K mg "SiltError" X_SiltError) (E_BadDay : ErrS K mg "BadDay" X_BadDay) (E_BadWeights : ErrS K mg "BadWeights" X_BadWeights) (C_Rule___getitem__ : CalG P w K mg base C 2 P_Rule___getitem__ (sp_Rule___getitem__ C)) (C_need_rule : Cal P w K mg base 1 "need_rule" P_need_rule (sp_need_rule C)) (C_need_number : CalD P w K mg base 2 "need_number" P_need_number sp_need_number [.int 0]) (C_times_baked : Cal P w K mg base 1 "times_baked" P_times_baked sp_times_baked) : Cal P w K mg base 6 "baked" P_baked (sp_baked C) :=
  ⟨⟨f, fd, ok_baked F B R_Rule R_Weights E_SiltError E_BadDay E_BadWeights C_Rule___getitem__ C_need_rule C_need_number C_times_baked, hm, F.kp, F.binds (ps := P_baked) fun _ _ _ _ _ _ us hl => match us, hl with | [_, _], _ => rfl⟩, mono_spFO⟩
end L53
set_option Elab.async false
set_option linter.all false
set_option maxRecDepth 100000
set_option maxHeartbeats 0
namespace L53
open PySem L2 DL
variable {P : Program} {w : World} {K : PySem.W.Frag} {mg : Str → Option Value} {base : Heap} {C A_Weights X_SiltError X_BadDay X_BadWeights : Addr}

theorem dig_in {p : Int × Int} (ok : PairV p) {n : Int} (hn : 0 ≤ n) : 0 ≤ n - bakesR p n * p.2 ∧ n - bakesR p n * p.2 < 12 := by
  have h1 := ok.lo; have h2 := ok.le; have h3 := ok.hi
  unfold bakesR
  by_cases h : 0 ≤ (n - p.1 + p.2) / p.2
  · rw [Int.max_eq_right h]
    have e1 := Int.ediv_mul_le (n - p.1 + p.2) (show p.2 ≠ 0 by omega)
    have e2 := Int.lt_ediv_add_one_mul_self (n - p.1 + p.2) (show 0 < p.2 by omega)
    rw [Int.add_mul, Int.one_mul] at e2
    omega
  · rw [Int.max_eq_left (by omega), Int.zero_mul]
    have : n - p.1 + p.2 < 0 := by
      by_cases z : 0 ≤ n - p.1 + p.2
      · exact absurd (Int.ediv_nonneg z (by omega)) h
      · omega
    omega
theorem digs_in (r : Ru) : ∀ (k g : Nat) (n : Int), 0 ≤ n → ∀ d ∈ digsF r k g n, 0 ≤ d ∧ d < 12
  | 0, g, n, _, d, h => by cases h
  | k + 1, g, n, hn, d, h => by
    unfold digsF at h
    by_cases z : n ≤ 0
    · rw [if_pos z] at h; cases h
    · rw [if_neg z] at h
      rcases List.mem_cons.mp h with rfl | h
      · exact dig_in (r.at_ok g) hn
      · exact digs_in r k (g + 1) _ (bakesR_nn _ _) d h
theorem digs_len (r : Ru) : ∀ (k g : Nat) (n : Int) (m : Nat), 0 ≤ n → n < 2 ^ m → (digsF r k g n).length ≤ m
  | 0, g, n, m, _, _ => Nat.zero_le _
  | k + 1, g, n, m, hn, h => by
    unfold digsF
    by_cases z : n ≤ 0
    · rw [if_pos z]; exact Nat.zero_le _
    · rw [if_neg z]
      cases m with
      | zero => omega
      | succ m =>
        have h1 := bakesR_half (r.at_ok g) hn
        rw [Int.pow_succ] at h
        exact Nat.succ_le_succ (digs_len r k (g + 1) _ m (bakesR_nn _ _) (by omega))
/-- k layers of the grade g of so many days, from a first day on -/
def blockD (g : Nat) (size : Int) : Nat → Int → List D
  | 0, _ => []
  | k + 1, first => .tup [.int first, .int (first + size - 1), .int g] :: blockD g size k (first + size)
/-- the layers of the grades below g, from the ground up -/
def laysD (r : Ru) (ds : List Int) : Nat → Int → List D
  | 0, _ => []
  | g + 1, first => blockD g (sizeR r g) (ds.getD g 0).toNat first ++ laysD r ds g (first + (ds.getD g 0).toNat * sizeR r g)
theorem blockD_len (g : Nat) (size : Int) : ∀ k first, (blockD g size k first).length = k
  | 0, _ => rfl
  | k + 1, first => congrArg Nat.succ (blockD_len g size k _)
theorem blockD_snoc (g : Nat) (size : Int) : ∀ (k : Nat) (first : Int), blockD g size (k + 1) first = blockD g size k first ++ [.tup [.int (first + k * size), .int (first + k * size + size - 1), .int g]]
  | 0, first => by simp [blockD]
  | k + 1, first => by
    rw [blockD, blockD_snoc g size k (first + size)]
    simp only [blockD, List.cons_append]
    have : first + size + (k : Int) * size = first + ((k + 1 : Nat) : Int) * size := by rw [Int.natCast_add, Int.add_mul]; omega
    rw [this]


def sp_layers (C : Addr) : SpD := spFO 2 (fun (a : Ru × Int) => [ruleD C a.1, .int a.2]) (fun a => 0 ≤ a.2 ∧ a.2 < 2 ^ 1000) (fun a xs => xs = laysD a.1 (digsR a.1 0 a.2) (digsR a.1 0 a.2).length 1)

abbrev s_layers : Stmt := top 29
def N_layers : List Str := ["rule", "day", "told", "found", "first", "days", "grade", "_"]
def P_layers : List Str := ["rule", "day"]
theorem sc_layers : FnScope N_layers P_layers (defScope s_layers) := ⟨rfl, rfl, rfl, by decide +kernel, rfl, by decide +kernel, by decide +kernel⟩
theorem ok_layers {f : Addr} {fd : FuncData} (F : Fun K "layers" "layers" s_layers f fd) (B : Bl K mg C A_Weights) (R_Rule : RuleS K mg C) (R_Weights : WeightsS K mg A_Weights) (E_SiltError : ErrS K mg "SiltError" X_SiltError) (E_BadDay : ErrS K mg "BadDay" X_BadDay) (E_BadWeights : ErrS K mg "BadWeights" X_BadWeights) (C_digits : Cal P w K mg base 6 "digits" P_digits (sp_digits C)) (C_Rule_size : CalM P w K mg base C 4 "size" P_Rule_size (sp_Rule_size C)) (C_Rule___getitem__ : CalG P w K mg base C 2 P_Rule___getitem__ (sp_Rule___getitem__ C)) : FnOk P w K mg base (L2.CX P w) 8 f fd P_layers (spOf K (sp_layers C)) := by
  refine fn_ok F sc_layers len_spFO (io := []) io_spFO (fun cdv A outer sh H E hr =>
 (db_cons (ds_set (i := 2) (show (_ : Nat) ∉ ([] : List Nat) by decide) sc_layers.nd (by rfl) (.inl rfl) (do_c C_digits (hr.mono (by decide)) (by rfl) (takes_of rfl rfl rfl rfl) (dr_v (de_var 0 (pv 0)) (dr_v (de_var 1 (pv 1)) dr_nil))).de)
 (db_cons (ds_par (i := 3) (j := 4) rfl sc_layers.nd (by rfl) (by rfl) (by decide) (show (_ : Nat) ∉ ([] : List Nat) by decide) (show (_ : Nat) ∉ ([] : List Nat) by decide) (by rfl) (by rfl) (dn_o (do_lst da_nil) (dn_v de_int dn_nil)))
 (db_cons (ds_set (i := 5) (show (_ : Nat) ∉ ([] : List Nat) by decide) sc_layers.nd (by rfl) (.inl rfl) (de_m C_Rule_size R_Rule.cl (de_var 0 (pv 0)) (hr.mono (by decide)) (takes_of rfl rfl rfl rfl) (dr_v (de_callB call_len len_s (by rfl) B.len (by rfl) (da_cons (de_var 2 (pv 2)) da_nil)) dr_nil)))
 (db_cons (ds_for (vs := [6]) (passes_of rfl) rfl (di_rev1 (by rfl) B.reversed (by rfl) B.range (de_callB call_len len_s (by rfl) B.len (by rfl) (da_cons (de_var 2 (pv 2)) da_nil))) (dg_name (i := 6) (show (_ : Nat) ∉ ([] : List Nat) by decide) (by decide) sc_layers.nd (by rfl) (.inl rfl)) (db_cons (ds_aug (i := 5) (show (_ : Nat) ∉ ([] : List Nat) by decide) sc_layers.nd (by rfl) (.inl rfl) iop_fdivW ifdiv_s (de_ix (de_g C_Rule___getitem__ (de_var 0 (pv 0)) (de_var 6 (pv 6)) (hr.mono (by decide)) (takes_of rfl rfl rfl rfl)) de_int (fun _ _ => rfl)))
 (db_one (ds_for (vs := [7]) (passes_of rfl) rfl (di_range1 (by rfl) B.range (da_cons (de_ix (de_var 2 (pv 2)) (de_var 6 (pv 6)) (fun _ _ => rfl)) da_nil)) (dg_name (i := 7) (show (_ : Nat) ∉ ([] : List Nat) by decide) (by decide) sc_layers.nd (by rfl) (.inl rfl)) (db_cons (ds_expr (de_append 3 (pv 3) (de_tup (da_cons (de_var 4 (pv 4)) (da_cons (de_sub (de_add (de_var 4 (pv 4)) (de_var 5 (pv 5))) de_int) (da_cons (de_var 6 (pv 6)) da_nil))))))
 (db_one (ds_aug (i := 4) (show (_ : Nat) ∉ ([] : List Nat) by decide) sc_layers.nd (by rfl) (.inl rfl) iop_add iadd_s (de_var 5 (pv 5)))))))))
 (db_one (ds_retB 3 (pv 3)))))))) ?_

  rintro ins Q R ⟨⟨r, n⟩, rfl, l, ⟨h1, h2⟩, k⟩
  dsimp only [sSeq, sIf, sSet, sSetO, sRet, sRetO, sNext, sExpr, wTest, w1, w2, wVar, valOf, Env.at, Env.put, wOD, wLst, wTup, waNil, waCons, waStar, wC, wCall, wCallB, wIf, DL.wTru, truD, wAnd, wOr, DL.wNot, wAndV, wOrV, wNotV, List.map, List.length, List.replicate, List.replicate_succ, List.replicate_zero, DL.putK, OD.toD, o2I, o2I0, addD, mulD, ixD, lenL, lenD, intL, absL, maxL, minL, divmodL, tupleL, blOf, intOf, lstD, tupD, seqOf, outOf, List.tail, Nat.reduceAdd, Nat.reduceSub, wrNil, wrV, wrO, wCallR, wCallRO, takeA, takeK, backA, isOwn, Sl.asD, Sl.asO, spK, noInsO, sAugIx, modL, wIxB, lstOf, wTruB, bor, sExtO, wRep, wSl, wSlB, wCat, wListOf, wpNone, wpSome, DL.isScal, sFor, wRng1, wRng2, gN, gTupD, gConsD, gNilD, sAsg, sPar, parK, wnNil, wnV, wnO, sRetN, ownL, wIsi, isiL, isiD, eqD, neD, wComp, sAug, wGet, isC, wFld, fldD, wMeth, insD, madeK, wrDef, wMut, sRetB, List.nil_append, List.cons_append, DL.D.ty, seqD, gFld, modI, wEnum, wRev1, sumL, allL, anyL, sFreeze, frK, wIter, wIterT, wMake, wBm, idxL, sTry, exmD, sRaise, wEqO, wChain, wDNew, sSetK, modK, dicOf, wDGetB, wDGet, dicD, wDInB, wDGet2B, sAugK, keyD, wOfK, wOfKB, fCopy, fKeys, fSorted, wSortL, wDc, wKeys, wItems, wVals, sForL, noEx, eqK, neK, eqT, neT, ltT, wRng3, kD, N_layers] at h1 h2 k ⊢
  refine ⟨(r, n), rfl, rfl, ⟨h1, h2⟩, fun xs hd => ?_⟩
  subst hd
  have hlen : (digsR r 0 n).length ≤ 1000 := digs_len r _ _ _ _ h1 h2
  have hin : ∀ d ∈ digsR r 0 n, 0 ≤ d ∧ d < 12 := digs_in r _ _ _ h1
  generalize digsR r 0 n = ds at hlen hin k
  refine ⟨trivial, by decide, trivial, rfl, ?_⟩
  refine ⟨⟨rfl, rfl⟩, (r, (ds.map D.int).length), rfl, rfl, by dsimp only; rw [List.length_map]; omega, fun d hd => ?_⟩
  subst hd
  dsimp only [sSeq, sIf, sSet, sSetO, sRet, sRetO, sNext, sExpr, wTest, w1, w2, wVar, valOf, Env.at, Env.put, wOD, wLst, wTup, waNil, waCons, waStar, wC, wCall, wCallB, wIf, DL.wTru, truD, wAnd, wOr, DL.wNot, wAndV, wOrV, wNotV, List.map, List.length, List.replicate, List.replicate_succ, List.replicate_zero, DL.putK, OD.toD, o2I, o2I0, addD, mulD, ixD, lenL, lenD, intL, absL, maxL, minL, divmodL, tupleL, blOf, intOf, lstD, tupD, seqOf, outOf, List.tail, Nat.reduceAdd, Nat.reduceSub, wrNil, wrV, wrO, wCallR, wCallRO, takeA, takeK, backA, isOwn, Sl.asD, Sl.asO, spK, noInsO, sAugIx, modL, wIxB, lstOf, wTruB, bor, sExtO, wRep, wSl, wSlB, wCat, wListOf, wpNone, wpSome, DL.isScal, sFor, wRng1, wRng2, gN, gTupD, gConsD, gNilD, sAsg, sPar, parK, wnNil, wnV, wnO, sRetN, ownL, wIsi, isiL, isiD, eqD, neD, wComp, sAug, wGet, isC, wFld, fldD, wMeth, insD, madeK, wrDef, wMut, sRetB, List.nil_append, List.cons_append, DL.D.ty, seqD, gFld, modI, wEnum, wRev1, sumL, allL, anyL, sFreeze, frK, wIter, wIterT, wMake, wBm, idxL, sTry, exmD, sRaise, wEqO, wChain, wDNew, sSetK, modK, dicOf, wDGetB, wDGet, dicD, wDInB, wDGet2B, sAugK, keyD, wOfK, wOfKB, fCopy, fKeys, fSorted, wSortL, wDc, wKeys, wItems, wVals, sForL, noEx, eqK, neK, eqT, neT, ltT, wRng3, kD, N_layers]
  rw [List.length_map]
  refine ⟨by omega, ?_⟩
  rw [Int.toNat_natCast]
  refine forGo_rev (fun m ρ => ∃ (acc : List D) (f : Int) (s t : Sl), ρ = [.v (ruleD C r), .v (.int n), .v (.lst (ds.map .int)), .own (.lst acc), .v (.int f), .v (.int (sizeR r m)), s, t] ∧ noIns s ∧ noIns t ∧ acc ++ laysD r ds m f = laysD r ds ds.length 1 ∧ m ≤ ds.length ∧ acc.length + 12 * m ≤ 12 * ds.length) (fun m ρ hI P hP => ?_) (fun ρ hI => ?_) _ _ ⟨[], 1, .no, .no, rfl, trivial, trivial, rfl, Nat.le_refl _, by simp⟩
  · obtain ⟨acc, f, s, t, rfl, hs, ht, he, hm, hl⟩ := hI
    refine putK_intro (by simp) hs ?_
    dsimp only [sSeq, sIf, sSet, sSetO, sRet, sRetO, sNext, sExpr, wTest, w1, w2, wVar, valOf, Env.at, Env.put, wOD, wLst, wTup, waNil, waCons, waStar, wC, wCall, wCallB, wIf, DL.wTru, truD, wAnd, wOr, DL.wNot, wAndV, wOrV, wNotV, List.map, List.length, List.replicate, List.replicate_succ, List.replicate_zero, OD.toD, o2I, o2I0, addD, mulD, ixD, lenL, lenD, intL, absL, maxL, minL, divmodL, tupleL, blOf, intOf, lstD, tupD, seqOf, outOf, List.tail, Nat.reduceAdd, Nat.reduceSub, wrNil, wrV, wrO, wCallR, wCallRO, takeA, takeK, backA, isOwn, Sl.asD, Sl.asO, spK, noInsO, sAugIx, modL, wIxB, lstOf, wTruB, bor, sExtO, wRep, wSl, wSlB, wCat, wListOf, wpNone, wpSome, DL.isScal, sFor, wRng1, wRng2, gN, gTupD, gConsD, gNilD, sAsg, sPar, parK, wnNil, wnV, wnO, sRetN, ownL, wIsi, isiL, isiD, eqD, neD, wComp, sAug, wGet, isC, wFld, fldD, wMeth, insD, madeK, wrDef, wMut, sRetB, List.nil_append, List.cons_append, DL.D.ty, seqD, gFld, modI, wEnum, wRev1, sumL, allL, anyL, sFreeze, frK, wIter, wIterT, wMake, wBm, idxL, sTry, exmD, sRaise, wEqO, wChain, wDNew, sSetK, modK, dicOf, wDGetB, wDGet, dicD, wDInB, wDGet2B, sAugK, keyD, wOfK, wOfKB, fCopy, fKeys, fSorted, wSortL, wDc, wKeys, wItems, wVals, sForL, noEx, eqK, neK, eqT, neT, ltT, wRng3, kD]
    refine ⟨rfl, (r, m), rfl, rfl, trivial, fun d hd => ?_⟩
    subst hd
    have ok := r.at_ok m
    have o1 := ok.lo; have o2 := ok.le; have o3 := ok.hi
    dsimp only [sSeq, sIf, sSet, sSetO, sRet, sRetO, sNext, sExpr, wTest, w1, w2, wVar, valOf, Env.at, Env.put, wOD, wLst, wTup, waNil, waCons, waStar, wC, wCall, wCallB, wIf, DL.wTru, truD, wAnd, wOr, DL.wNot, wAndV, wOrV, wNotV, List.map, List.length, List.replicate, List.replicate_succ, List.replicate_zero, DL.putK, OD.toD, o2I, o2I0, addD, mulD, ixD, lenL, lenD, intL, absL, maxL, minL, divmodL, tupleL, blOf, intOf, lstD, tupD, seqOf, outOf, List.tail, Nat.reduceAdd, Nat.reduceSub, wrNil, wrV, wrO, wCallR, wCallRO, takeA, takeK, backA, isOwn, Sl.asD, Sl.asO, spK, noInsO, sAugIx, modL, wIxB, lstOf, wTruB, bor, sExtO, wRep, wSl, wSlB, wCat, wListOf, wpNone, wpSome, DL.isScal, sFor, wRng1, wRng2, gN, gTupD, gConsD, gNilD, sAsg, sPar, parK, wnNil, wnV, wnO, sRetN, ownL, wIsi, isiL, isiD, eqD, neD, wComp, sAug, wGet, isC, wFld, fldD, wMeth, insD, madeK, wrDef, wMut, sRetB, List.nil_append, List.cons_append, DL.D.ty, seqD, gFld, modI, wEnum, wRev1, sumL, allL, anyL, sFreeze, frK, wIter, wIterT, wMake, wBm, idxL, sTry, exmD, sRaise, wEqO, wChain, wDNew, sSetK, modK, dicOf, wDGetB, wDGet, dicD, wDInB, wDGet2B, sAugK, keyD, wOfK, wOfKB, fCopy, fKeys, fSorted, wSortL, wDc, wKeys, wItems, wVals, sForL, noEx, eqK, neK, eqT, neT, ltT, wRng3, kD, N_layers, pairD]
    have hm' : m < ds.length := by omega
    have dm : ds.getD m 0 = ds[m] := by rw [List.getD_eq_getElem?_getD, List.getElem?_eq_getElem hm']; rfl
    have d0 := hin ds[m] (List.getElem_mem hm')
    have e1 : sizeR r (m + 1) / (r.at m).2 = sizeR r m := by
      show sizeR r m * (r.at m).2 / (r.at m).2 = _
      exact Int.mul_ediv_cancel _ (by omega)
    refine ⟨.int (r.at m).2, rfl, divOk_small (by omega) (by omega), .int ds[m], by rw [atI_map, atI_nn hm']; rfl, ⟨by omega, by omega⟩, ?_⟩
    rw [e1]
    refine forGo_rng (ds[m]).toNat (fun i ρ => ∃ s, ρ = [.v (ruleD C r), .v (.int n), .v (.lst (ds.map .int)), .own (.lst (acc ++ blockD m (sizeR r m) i f)), .v (.int (f + i * sizeR r m)), .v (.int (sizeR r m)), .v (.int m), s] ∧ noIns s) (fun i ρ hi hI P2 hP2 => ?_) (fun ρ hI => ?_) ⟨t, by simp [blockD], ht⟩
    · obtain ⟨s, rfl, hs⟩ := hI
      refine putK_intro (by simp) hs ?_
      dsimp only [sSeq, sIf, sSet, sSetO, sRet, sRetO, sNext, sExpr, wTest, w1, w2, wVar, valOf, Env.at, Env.put, wOD, wLst, wTup, waNil, waCons, waStar, wC, wCall, wCallB, wIf, DL.wTru, truD, wAnd, wOr, DL.wNot, wAndV, wOrV, wNotV, List.map, List.length, List.replicate, List.replicate_succ, List.replicate_zero, DL.putK, OD.toD, o2I, o2I0, addD, mulD, ixD, lenL, lenD, intL, absL, maxL, minL, divmodL, tupleL, blOf, intOf, lstD, tupD, seqOf, outOf, List.tail, Nat.reduceAdd, Nat.reduceSub, wrNil, wrV, wrO, wCallR, wCallRO, takeA, takeK, backA, isOwn, Sl.asD, Sl.asO, spK, noInsO, sAugIx, modL, wIxB, lstOf, wTruB, bor, sExtO, wRep, wSl, wSlB, wCat, wListOf, wpNone, wpSome, DL.isScal, sFor, wRng1, wRng2, gN, gTupD, gConsD, gNilD, sAsg, sPar, parK, wnNil, wnV, wnO, sRetN, ownL, wIsi, isiL, isiD, eqD, neD, wComp, sAug, wGet, isC, wFld, fldD, wMeth, insD, madeK, wrDef, wMut, sRetB, List.nil_append, List.cons_append, DL.D.ty, seqD, gFld, modI, wEnum, wRev1, sumL, allL, anyL, sFreeze, frK, wIter, wIterT, wMake, wBm, idxL, sTry, exmD, sRaise, wEqO, wChain, wDNew, sSetK, modK, dicOf, wDGetB, wDGet, dicD, wDInB, wDGet2B, sAugK, keyD, wOfK, wOfKB, fCopy, fKeys, fSorted, wSortL, wDc, wKeys, wItems, wVals, sForL, noEx, eqK, neK, eqT, neT, ltT, wRng3, kD, N_layers]
      refine ⟨trivial, by decide, _, rfl, ?_, hP2 _ ⟨.v (.int i), ?_, trivial⟩⟩
      · rw [List.length_append, blockD_len]
        show _ < 16777216
        omega
      · have e2 : f + (i : Int) * sizeR r m + sizeR r m = f + ((i + 1 : Nat) : Int) * sizeR r m := by rw [Int.natCast_add, Int.add_mul]; omega
        rw [blockD_snoc, ← List.append_assoc, e2]
    · obtain ⟨s, rfl, hs⟩ := hI
      refine hP _ ⟨_, _, _, _, rfl, trivial, hs, ?_, by omega, ?_⟩
      · rw [← he, List.append_assoc, laysD, dm]
      · rw [List.length_append, blockD_len]; omega
  · obtain ⟨acc, f, s, t, rfl, hs, ht, he, hm, hl⟩ := hI
    have he : acc = laysD r ds ds.length 1 := by rw [← he]; simp [laysD]
    exact ⟨trivial, k _ he⟩

theorem cal_layers {f : Addr} {fd : FuncData} (F : Fun K "layers" "layers" s_layers f fd) (hm : mg "layers" = some (.ref f)) (B : Bl K mg C A_Weights) (R_Rule : RuleS K mg C) (R_Weights : WeightsS K mg A_Weights) (E_SiltError : ErrS K mg "SiltError" X_SiltError) (E_BadDay : ErrS K mg "BadDay" X_BadDay) (E_BadWeights : ErrS K mg "BadWeights" X_BadWeights) (C_digits : Cal P w K mg base 6 "digits" P_digits (sp_digits C)) (C_Rule_size : CalM P w K mg base C 4 "size" P_Rule_size (sp_Rule_size C)) (C_Rule___getitem__ : CalG P w K mg base C 2 P_Rule___getitem__ (sp_Rule___getitem__ C)) : Cal P w K mg base 8 "layers" P_layers (sp_layers C) :=
  ⟨⟨f, fd, ok_layers F B R_Rule R_Weights E_SiltError E_BadDay E_BadWeights C_digits C_Rule_size C_Rule___getitem__, hm, F.kp, F.binds (ps := P_layers) fun _ _ _ _ _ _ us hl => match us, hl with | [_, _], _ => rfl⟩, mono_spFO⟩
end L53
set_option Elab.async false
set_option linter.all false
set_option maxRecDepth 100000
set_option maxHeartbeats 0
namespace L53
open PySem L2 DL
variable {P : Program} {w : World} {K : PySem.W.Frag} {mg : Str → Option Value} {base : Heap} {C A_Weights X_SiltError X_BadDay X_BadWeights : Addr}

def ruleL (f p : List (Int × Int)) : D := .tup [.lst (f.map pairD), .lst (p.map pairD)]
structure Drawn (f p : List (Int × Int)) : Prop where
  fl : f.length ≤ 2
  pl : p.length ≤ 2
  ne : p ≠ []
  ok : ∀ x ∈ f ++ p, PairOk x
theorem int_mem {zs : List Int} {d : D} (h : d ∈ zs.map D.int) : ∃ z, d = .int z ∧ z ∈ zs := by
  obtain ⟨z, h1, h2⟩ := List.mem_map.mp h
  exact ⟨z, h2.symm, h1⟩


def sp__law_rule : SpD := spR 0 (fun xs ds => drawOk xs) (fun xs ds d ys => drawOk ys ∧ ∃ f p, d = ruleL f p ∧ Drawn f p)

abbrev s__law_rule : Stmt := top 51
def N__law_rule : List Str := ["draw", "front", "turn"]
def P__law_rule : List Str := ["draw"]
theorem sc__law_rule : FnScope N__law_rule P__law_rule (defScope s__law_rule) := ⟨rfl, rfl, rfl, by decide +kernel, rfl, by decide +kernel, by decide +kernel⟩
theorem ok__law_rule {f : Addr} {fd : FuncData} (F : Fun K "_law_rule" "_law_rule" s__law_rule f fd) (B : Bl K mg C A_Weights) (R_Rule : RuleS K mg C) (R_Weights : WeightsS K mg A_Weights) (E_SiltError : ErrS K mg "SiltError" X_SiltError) (E_BadDay : ErrS K mg "BadDay" X_BadDay) (E_BadWeights : ErrS K mg "BadWeights" X_BadWeights) (C__law_pick : Cal P w K mg base 3 "_law_pick" P__law_pick sp__law_pick) (C__law_pair : Cal P w K mg base 4 "_law_pair" P__law_pair sp__law_pair) : FnOk P w K mg base (L2.CX P w) 6 f fd P__law_rule (spOf K sp__law_rule) := by
  refine fn_ok F sc__law_rule len_spR (io := [0]) io_spR (fun cdv A outer sh H E hr =>
 (db_cons (ds_setLc (j := 1) (own := [("turn", 2)]) rfl sc__law_rule.nd (by rfl) (by rfl) (show (_ : Nat) ∉ ([0] : List Nat) by decide) (sw_true rfl rfl rfl (by decide +kernel)) (di_range1 (by rfl) B.range (da_cons (de_c C__law_pick (hr.mono (by decide)) (by rfl) (takes_of rfl rfl rfl rfl) (dr_o (i := 0) (pv 0) (dr_v (do_lst (da_cons de_int (da_cons de_int (da_cons de_int (da_cons de_int da_nil))))).de dr_nil))) da_nil)) (blkOk_by (own := [("turn", 2)]) (N := N__law_rule) (sc := defScope s__law_rule) (by decide +kernel)) (show ∀ v ∈ ([("turn", 2)] : List (Str × Nat)).map (·.2), v ∉ ([0] : List Nat) by decide) (fun _ _ _ _ _ => (dg_name (i := 2) (show (_ : Nat) ∉ ([0] : List Nat) by decide) (by decide) sc__law_rule.nd (by rfl) (.inl rfl))) ht_nil (fun _ _ _ _ _ => (de_c C__law_pair (hr.mono (by decide)) (by rfl) takes_no (dr_o (i := 0) (pv 0) dr_nil))))
 (db_one (ds_ret (de_tup (da_cons (de_var 1 (pv 1)) (da_cons (do_comp (own := [("turn", 2)]) rfl sc__law_rule.nd (di_range1 (by rfl) B.range (da_cons (de_add de_int (de_c C__law_pick (hr.mono (by decide)) (by rfl) (takes_of rfl rfl rfl rfl) (dr_o (i := 0) (pv 0) (dr_v (do_lst (da_cons de_int (da_cons de_int (da_cons de_int da_nil)))).de dr_nil)))) da_nil)) (blkOk_by (own := [("turn", 2)]) (N := N__law_rule) (sc := defScope s__law_rule) (by decide +kernel)) (show ∀ v ∈ ([("turn", 2)] : List (Str × Nat)).map (·.2), v ∉ ([0] : List Nat) by decide) (fun _ _ _ _ _ => (dg_name (i := 2) (show (_ : Nat) ∉ ([0] : List Nat) by decide) (by decide) sc__law_rule.nd (by rfl) (.inl rfl))) ht_nil (fun _ _ _ _ _ => (de_c C__law_pair (hr.mono (by decide)) (by rfl) takes_no (dr_o (i := 0) (pv 0) dr_nil)))).de da_nil))))))) ?_

  rintro ins Q R ⟨_, ds, rfl, l, h1, k⟩
  obtain rfl := List.length_eq_zero_iff.mp l
  dsimp only [sSeq, sIf, sSet, sSetO, sRet, sRetO, sNext, sExpr, wTest, w1, w2, wVar, valOf, Env.at, Env.put, wOD, wLst, wTup, waNil, waCons, waStar, wC, wCall, wCallB, wIf, DL.wTru, truD, wAnd, wOr, DL.wNot, wAndV, wOrV, wNotV, List.map, List.length, List.replicate, List.replicate_succ, List.replicate_zero, DL.putK, OD.toD, o2I, o2I0, addD, mulD, ixD, lenL, lenD, intL, absL, maxL, minL, divmodL, tupleL, blOf, intOf, lstD, tupD, seqOf, outOf, List.tail, Nat.reduceAdd, Nat.reduceSub, wrNil, wrV, wrO, wCallR, wCallRO, takeA, takeK, backA, isOwn, Sl.asD, Sl.asO, spK, noInsO, sAugIx, modL, wIxB, lstOf, wTruB, bor, sExtO, wRep, wSl, wSlB, wCat, wListOf, wpNone, wpSome, DL.isScal, sFor, wRng1, wRng2, gN, gTupD, gConsD, gNilD, sAsg, sPar, parK, wnNil, wnV, wnO, sRetN, ownL, wIsi, isiL, isiD, eqD, neD, wComp, sAug, wGet, isC, wFld, fldD, wMeth, insD, madeK, wrDef, wMut, sRetB, List.nil_append, List.cons_append, DL.D.ty, seqD, gFld, modI, wEnum, wRev1, sumL, allL, anyL, sFreeze, frK, wIter, wIterT, wMake, wBm, idxL, sTry, exmD, sRaise, wEqO, wChain, wDNew, sSetK, modK, dicOf, wDGetB, wDGet, dicD, wDInB, wDGet2B, sAugK, keyD, wOfK, wOfKB, fCopy, fKeys, fSorted, wSortL, wDc, wKeys, wItems, wVals, sForL, noEx, eqK, neK, eqT, neT, ltT, wRng3, kD, N__law_rule]
  refine ⟨trivial, by decide, ?_⟩
  refine ⟨_, [.lst ([0, 0, 1, 2].map .int)], rfl, rfl, ⟨h1, _, rfl, by simp⟩, fun d ys hd => ?_⟩
  obtain ⟨h3, zs, e, h4⟩ := hd
  cases e
  obtain ⟨z, rfl, hz⟩ := int_mem h4
  have z0 : 0 ≤ z ∧ z ≤ 2 := by
    simp only [List.mem_cons, List.not_mem_nil, or_false] at hz
    omega
  refine ⟨by omega, ?_⟩
  refine compGo_inv (fun ds acc ρ => ∃ xs, drawOk xs ∧ ρ = [.own (.lst xs), .no, .no] ∧ ∃ ps : List (Int × Int), acc = ps.map pairD ∧ (∀ p ∈ ps, PairOk p) ∧ (ps.length + ds.length : Int) = z) (fun d ds acc ρ hI P hP => ?_) (fun acc ρ hI => ?_) _ _ _ ⟨_, h3, rfl, [], rfl, by simp, by rw [rangeD_length]; simp; omega⟩
  · obtain ⟨xs, x1, rfl, ps, rfl, x2, x3⟩ := hI
    refine ⟨fun _ => ⟨trivial, ?_⟩, fun z => by (cases z)⟩
    refine ⟨_, [], rfl, rfl, x1, fun d ys hd => ?_⟩
    obtain ⟨x4, p, rfl, x5⟩ := hd
    simp only [List.length_cons] at x3
    refine ⟨by rw [List.length_map]; show ps.length < 16777216; omega, hP _ _ ⟨ys, x4, rfl, ps ++ [p], by simp, fun q hq => ?_, by simp; omega⟩⟩
    rcases List.mem_append.mp hq with hq | hq
    · exact x2 q hq
    · rw [List.mem_singleton.mp hq]; exact x5
  · obtain ⟨xs, x1, rfl, f, rfl, f2, f3⟩ := hI
    simp only [List.length_nil] at f3
    dsimp only [sSeq, sIf, sSet, sSetO, sRet, sRetO, sNext, sExpr, wTest, w1, w2, wVar, valOf, Env.at, Env.put, wOD, wLst, wTup, waNil, waCons, waStar, wC, wCall, wCallB, wIf, DL.wTru, truD, wAnd, wOr, DL.wNot, wAndV, wOrV, wNotV, List.map, List.length, List.replicate, List.replicate_succ, List.replicate_zero, DL.putK, OD.toD, o2I, o2I0, addD, mulD, ixD, lenL, lenD, intL, absL, maxL, minL, divmodL, tupleL, blOf, intOf, lstD, tupD, seqOf, outOf, List.tail, Nat.reduceAdd, Nat.reduceSub, wrNil, wrV, wrO, wCallR, wCallRO, takeA, takeK, backA, isOwn, Sl.asD, Sl.asO, spK, noInsO, sAugIx, modL, wIxB, lstOf, wTruB, bor, sExtO, wRep, wSl, wSlB, wCat, wListOf, wpNone, wpSome, DL.isScal, sFor, wRng1, wRng2, gN, gTupD, gConsD, gNilD, sAsg, sPar, parK, wnNil, wnV, wnO, sRetN, ownL, wIsi, isiL, isiD, eqD, neD, wComp, sAug, wGet, isC, wFld, fldD, wMeth, insD, madeK, wrDef, wMut, sRetB, List.nil_append, List.cons_append, DL.D.ty, seqD, gFld, modI, wEnum, wRev1, sumL, allL, anyL, sFreeze, frK, wIter, wIterT, wMake, wBm, idxL, sTry, exmD, sRaise, wEqO, wChain, wDNew, sSetK, modK, dicOf, wDGetB, wDGet, dicD, wDInB, wDGet2B, sAugK, keyD, wOfK, wOfKB, fCopy, fKeys, fSorted, wSortL, wDc, wKeys, wItems, wVals, sForL, noEx, eqK, neK, eqT, neT, ltT, wRng3, kD, N__law_rule]
    refine ⟨trivial, by decide, ?_⟩
    refine ⟨_, [.lst ([0, 0, 1].map .int)], rfl, rfl, ⟨x1, _, rfl, by simp⟩, fun d ys hd => ?_⟩
    obtain ⟨y3, zs, e, y4⟩ := hd
    cases e
    obtain ⟨y, rfl, hy⟩ := int_mem y4
    have y0 : 0 ≤ y ∧ y ≤ 1 := by
      simp only [List.mem_cons, List.not_mem_nil, or_false] at hy
      omega
    refine ⟨by omega, ?_⟩
    refine compGo_inv (fun ds acc ρ => ∃ xs, drawOk xs ∧ ρ = [.own (.lst xs), .v (.lst (f.map pairD)), .no] ∧ ∃ ps : List (Int × Int), acc = ps.map pairD ∧ (∀ p ∈ ps, PairOk p) ∧ (ps.length + ds.length : Int) = 1 + y) (fun d ds acc ρ hI P hP => ?_) (fun acc ρ hI => ?_) _ _ _ ⟨_, y3, rfl, [], rfl, by simp, by rw [rangeD_length]; simp; omega⟩
    · obtain ⟨xs, x1, rfl, ps, rfl, x2, x3⟩ := hI
      refine ⟨fun _ => ⟨trivial, ?_⟩, fun z => by (cases z)⟩
      refine ⟨_, [], rfl, rfl, x1, fun d ys hd => ?_⟩
      obtain ⟨x4, p, rfl, x5⟩ := hd
      simp only [List.length_cons] at x3
      refine ⟨by rw [List.length_map]; show ps.length < 16777216; omega, hP _ _ ⟨ys, x4, rfl, ps ++ [p], by simp, fun q hq => ?_, by simp; omega⟩⟩
      rcases List.mem_append.mp hq with hq | hq
      · exact x2 q hq
      · rw [List.mem_singleton.mp hq]; exact x5
    · obtain ⟨xs, x1, rfl, p, rfl, p2, p3⟩ := hI
      simp only [List.length_nil] at p3
      refine ⟨by decide, trivial, k _ _ ⟨x1, f, p, rfl, by omega, by omega, fun e => by rw [e] at p3; simp at p3; omega, fun x hx => (List.mem_append.mp hx).elim (f2 x) (p2 x)⟩⟩

theorem cal__law_rule {f : Addr} {fd : FuncData} (F : Fun K "_law_rule" "_law_rule" s__law_rule f fd) (hm : mg "_law_rule" = some (.ref f)) (B : Bl K mg C A_Weights) (R_Rule : RuleS K mg C) (R_Weights : WeightsS K mg A_Weights) (E_SiltError : ErrS K mg "SiltError" X_SiltError) (E_BadDay : ErrS K mg "BadDay" X_BadDay) (E_BadWeights : ErrS K mg "BadWeights" X_BadWeights) (C__law_pick : Cal P w K mg base 3 "_law_pick" P__law_pick sp__law_pick) (C__law_pair : Cal P w K mg base 4 "_law_pair" P__law_pair sp__law_pair) : Cal P w K mg base 6 "_law_rule" P__law_rule sp__law_rule :=
  ⟨⟨f, fd, ok__law_rule F B R_Rule R_Weights E_SiltError E_BadDay E_BadWeights C__law_pick C__law_pair, hm, F.kp, F.binds (ps := P__law_rule) fun _ _ _ _ _ _ us hl => match us, hl with | [_], _ => rfl⟩, mono_spR⟩

def sp__law_at : SpD := spF 2 (fun (a : (List (Int × Int) × List (Int × Int)) × Nat) => [ruleL a.1.1 a.1.2, .int a.2]) (fun a => a.1.2 ≠ []) (fun a d => d = pairD (rowAt a.1.1 a.1.2 a.2))

abbrev s__law_at : Stmt := top 52
def N__law_at : List Str := ["told", "grade", "front", "period"]
def P__law_at : List Str := ["told", "grade"]
theorem sc__law_at : FnScope N__law_at P__law_at (defScope s__law_at) := ⟨rfl, rfl, rfl, by decide +kernel, rfl, by decide +kernel, by decide +kernel⟩
theorem ok__law_at {f : Addr} {fd : FuncData} (F : Fun K "_law_at" "_law_at" s__law_at f fd) (B : Bl K mg C A_Weights) (R_Rule : RuleS K mg C) (R_Weights : WeightsS K mg A_Weights) (E_SiltError : ErrS K mg "SiltError" X_SiltError) (E_BadDay : ErrS K mg "BadDay" X_BadDay) (E_BadWeights : ErrS K mg "BadWeights" X_BadWeights)  : FnOk P w K mg base (L2.CX P w) 1 f fd P__law_at (spOf K sp__law_at) := by
  refine fn_ok F sc__law_at len_spF (io := []) io_spF (fun cdv A outer sh H E hr =>
 (db_cons (ds_asg (vs := [2, 3]) (de_var 0 (pv 0)) (dg_tup (n := 2) rfl (dgs_cons (dg_name (i := 2) (show (_ : Nat) ∉ ([] : List Nat) by decide) (by decide) sc__law_at.nd (by rfl) (.inl rfl)) (dgs_cons (dg_name (i := 3) (show (_ : Nat) ∉ ([] : List Nat) by decide) (by decide) sc__law_at.nd (by rfl) (.inl rfl)) dgs_nil))))
 (db_one (ds_ret (de_if (dt_cmp op_lt (ops_I0 fun _ _ _ => .bl _) (de_var 1 (pv 1)) (de_callB call_len len_s (by rfl) B.len (by rfl) (da_cons (de_var 2 (pv 2)) da_nil)) (nomark _)) (de_ix (de_var 2 (pv 2)) (de_var 1 (pv 1)) (fun _ _ => rfl)) (de_ix (de_var 3 (pv 3)) (de_mod (de_callTy call_int1 int_s (by rfl) B.int (by rfl) (da_cons (de_sub (de_var 1 (pv 1)) (de_callB call_len len_s (by rfl) B.len (by rfl) (da_cons (de_var 2 (pv 2)) da_nil))) da_nil)) (de_callB call_len len_s (by rfl) B.len (by rfl) (da_cons (de_var 3 (pv 3)) da_nil))) (fun _ _ => rfl))))))) ?_

  rintro ins Q R ⟨⟨⟨f, p⟩, g⟩, rfl, l, hp, k⟩
  dsimp only [sSeq, sIf, sSet, sSetO, sRet, sRetO, sNext, sExpr, wTest, w1, w2, wVar, valOf, Env.at, Env.put, wOD, wLst, wTup, waNil, waCons, waStar, wC, wCall, wCallB, wIf, DL.wTru, truD, wAnd, wOr, DL.wNot, wAndV, wOrV, wNotV, List.map, List.length, List.replicate, List.replicate_succ, List.replicate_zero, DL.putK, OD.toD, o2I, o2I0, addD, mulD, ixD, lenL, lenD, intL, absL, maxL, minL, divmodL, tupleL, blOf, intOf, lstD, tupD, seqOf, outOf, List.tail, Nat.reduceAdd, Nat.reduceSub, wrNil, wrV, wrO, wCallR, wCallRO, takeA, takeK, backA, isOwn, Sl.asD, Sl.asO, spK, noInsO, sAugIx, modL, wIxB, lstOf, wTruB, bor, sExtO, wRep, wSl, wSlB, wCat, wListOf, wpNone, wpSome, DL.isScal, sFor, wRng1, wRng2, gN, gTupD, gConsD, gNilD, sAsg, sPar, parK, wnNil, wnV, wnO, sRetN, ownL, wIsi, isiL, isiD, eqD, neD, wComp, sAug, wGet, isC, wFld, fldD, wMeth, insD, madeK, wrDef, wMut, sRetB, List.nil_append, List.cons_append, DL.D.ty, seqD, gFld, modI, wEnum, wRev1, sumL, allL, anyL, sFreeze, frK, wIter, wIterT, wMake, wBm, idxL, sTry, exmD, sRaise, wEqO, wChain, wDNew, sSetK, modK, dicOf, wDGetB, wDGet, dicD, wDInB, wDGet2B, sAugK, keyD, wOfK, wOfKB, fCopy, fKeys, fSorted, wSortL, wDc, wKeys, wItems, wVals, sForL, noEx, eqK, neK, eqT, neT, ltT, wRng3, kD, N__law_at, ruleL] at hp k ⊢
  have hl : 0 < p.length := List.length_pos_iff.mpr hp
  refine ⟨rfl, rfl, ?_⟩
  simp only [List.length_map]
  refine ⟨fun h => ?_, fun h => ?_⟩
  · have h : g < f.length := by simpa using h
    refine ⟨pairD f[g], by rw [atI_map, atI_nn h]; rfl, trivial, k _ ?_⟩
    unfold rowAt
    rw [if_pos h, List.getD_eq_getElem?_getD, List.getElem?_eq_getElem h]; rfl
  · have h : ¬ g < f.length := by simpa using h
    have e : ((g : Int) - f.length) % p.length = (((g - f.length) % p.length : Nat) : Int) := by
      rw [Int.natCast_emod, Int.ofNat_sub (by omega)]
    have hm : (g - f.length) % p.length < p.length := Nat.mod_lt _ hl
    refine ⟨by omega, pairD p[(g - f.length) % p.length], by rw [atI_map, e, atI_nn hm]; rfl, trivial, k _ ?_⟩
    unfold rowAt
    rw [if_neg h, List.getD_eq_getElem?_getD, List.getElem?_eq_getElem hm]; rfl

theorem cal__law_at {f : Addr} {fd : FuncData} (F : Fun K "_law_at" "_law_at" s__law_at f fd) (hm : mg "_law_at" = some (.ref f)) (B : Bl K mg C A_Weights) (R_Rule : RuleS K mg C) (R_Weights : WeightsS K mg A_Weights) (E_SiltError : ErrS K mg "SiltError" X_SiltError) (E_BadDay : ErrS K mg "BadDay" X_BadDay) (E_BadWeights : ErrS K mg "BadWeights" X_BadWeights)  : Cal P w K mg base 1 "_law_at" P__law_at sp__law_at :=
  ⟨⟨f, fd, ok__law_at F B R_Rule R_Weights E_SiltError E_BadDay E_BadWeights , hm, F.kp, F.binds (ps := P__law_at) fun _ _ _ _ _ _ us hl => match us, hl with | [_, _], _ => rfl⟩, mono_spF⟩

def sp__law_far : SpD := spR 0 (fun xs ds => drawOk xs) (fun xs ds d ys => drawOk ys ∧ ∃ n : Int, d = .int n ∧ 0 ≤ n ∧ n < 2 ^ 100)

abbrev s__law_far : Stmt := top 53
def N__law_far : List Str := ["draw"]
def P__law_far : List Str := ["draw"]
theorem sc__law_far : FnScope N__law_far P__law_far (defScope s__law_far) := ⟨rfl, rfl, rfl, by decide +kernel, rfl, by decide +kernel, by decide +kernel⟩
theorem ok__law_far {f : Addr} {fd : FuncData} (F : Fun K "_law_far" "_law_far" s__law_far f fd) (B : Bl K mg C A_Weights) (R_Rule : RuleS K mg C) (R_Weights : WeightsS K mg A_Weights) (E_SiltError : ErrS K mg "SiltError" X_SiltError) (E_BadDay : ErrS K mg "BadDay" X_BadDay) (E_BadWeights : ErrS K mg "BadWeights" X_BadWeights) (C__law_take : Cal P w K mg base 2 "_law_take" P__law_take sp__law_take) (C__law_pick : Cal P w K mg base 3 "_law_pick" P__law_pick sp__law_pick) : FnOk P w K mg base (L2.CX P w) 5 f fd P__law_far (spOf K sp__law_far) := by
  refine fn_ok F sc__law_far len_spR (io := [0]) io_spR (fun cdv A outer sh H E hr =>
 (db_one (ds_ret (de_add (de_c C__law_take (hr.mono (by decide)) (by rfl) (takes_of rfl rfl rfl rfl) (dr_o (i := 0) (pv 0) (dr_v de_int dr_nil))) (de_mul (de_c C__law_pick (hr.mono (by decide)) (by rfl) (takes_of rfl rfl rfl rfl) (dr_o (i := 0) (pv 0) (dr_v (do_lst (da_cons (de_pow de_int de_int) (da_cons (de_pow de_int de_int) (da_cons (de_pow de_int de_int) (da_cons (de_pow de_int de_int) da_nil))))).de dr_nil))) (de_add de_int (de_c C__law_take (hr.mono (by decide)) (by rfl) (takes_of rfl rfl rfl rfl) (dr_o (i := 0) (pv 0) (dr_v de_int dr_nil))))))))) ?_

  rintro ins Q R ⟨_, ds, rfl, l, h1, k⟩
  obtain rfl := List.length_eq_zero_iff.mp l
  dsimp only [sSeq, sIf, sSet, sSetO, sRet, sRetO, sNext, sExpr, wTest, w1, w2, wVar, valOf, Env.at, Env.put, wOD, wLst, wTup, waNil, waCons, waStar, wC, wCall, wCallB, wIf, DL.wTru, truD, wAnd, wOr, DL.wNot, wAndV, wOrV, wNotV, List.map, List.length, List.replicate, List.replicate_succ, List.replicate_zero, DL.putK, OD.toD, o2I, o2I0, addD, mulD, ixD, lenL, lenD, intL, absL, maxL, minL, divmodL, tupleL, blOf, intOf, lstD, tupD, seqOf, outOf, List.tail, Nat.reduceAdd, Nat.reduceSub, wrNil, wrV, wrO, wCallR, wCallRO, takeA, takeK, backA, isOwn, Sl.asD, Sl.asO, spK, noInsO, sAugIx, modL, wIxB, lstOf, wTruB, bor, sExtO, wRep, wSl, wSlB, wCat, wListOf, wpNone, wpSome, DL.isScal, sFor, wRng1, wRng2, gN, gTupD, gConsD, gNilD, sAsg, sPar, parK, wnNil, wnV, wnO, sRetN, ownL, wIsi, isiL, isiD, eqD, neD, wComp, sAug, wGet, isC, wFld, fldD, wMeth, insD, madeK, wrDef, wMut, sRetB, List.nil_append, List.cons_append, DL.D.ty, seqD, gFld, modI, wEnum, wRev1, sumL, allL, anyL, sFreeze, frK, wIter, wIterT, wMake, wBm, idxL, sTry, exmD, sRaise, wEqO, wChain, wDNew, sSetK, modK, dicOf, wDGetB, wDGet, dicD, wDInB, wDGet2B, sAugK, keyD, wOfK, wOfKB, fCopy, fKeys, fSorted, wSortL, wDc, wKeys, wItems, wVals, sForL, noEx, eqK, neK, eqT, neT, ltT, wRng3, kD, N__law_far]
  refine ⟨trivial, ?_⟩
  refine ⟨_, [.int 1000], rfl, rfl, ⟨h1, _, rfl, by omega⟩, fun d ys hd => ?_⟩
  obtain ⟨h3, m, r, e, rfl, h4, h5⟩ := hd
  cases e
  refine ⟨trivial, by unfold CPow; decide, by unfold CPow; decide, by unfold CPow; decide, by unfold CPow; decide, by decide, ?_⟩
  refine ⟨_, [.lst ([10 ^ Int.toNat 2, 10 ^ Int.toNat 5, 10 ^ Int.toNat 9, 10 ^ Int.toNat 18].map D.int)], rfl, rfl, ⟨h3, _, rfl, by simp⟩, fun d ys hd => ?_⟩
  obtain ⟨h6, zs, e, h7⟩ := hd
  cases e
  obtain ⟨z, rfl, hz⟩ := int_mem h7
  have z0 : 0 ≤ z ∧ z ≤ 10 ^ 18 := by
    simp only [List.mem_cons, List.not_mem_nil, or_false] at hz
    rcases hz with rfl | rfl | rfl | rfl <;> decide
  refine ⟨trivial, ?_⟩
  refine ⟨_, [.int 99], rfl, rfl, ⟨h6, _, rfl, by omega⟩, fun d ys hd => ?_⟩
  obtain ⟨h8, m, s, e, rfl, h9, h10⟩ := hd
  cases e
  have p0 : 0 ≤ z * (1 + s) := Int.mul_nonneg z0.1 (by omega)
  have p1 : z * (1 + s) ≤ 10 ^ 18 * 99 := Int.mul_le_mul z0.2 (by omega) (by omega) (by decide)
  exact ⟨mulOk_l (by omega), trivial, k _ _ ⟨h8, _, rfl, by omega, by omega⟩⟩

theorem cal__law_far {f : Addr} {fd : FuncData} (F : Fun K "_law_far" "_law_far" s__law_far f fd) (hm : mg "_law_far" = some (.ref f)) (B : Bl K mg C A_Weights) (R_Rule : RuleS K mg C) (R_Weights : WeightsS K mg A_Weights) (E_SiltError : ErrS K mg "SiltError" X_SiltError) (E_BadDay : ErrS K mg "BadDay" X_BadDay) (E_BadWeights : ErrS K mg "BadWeights" X_BadWeights) (C__law_take : Cal P w K mg base 2 "_law_take" P__law_take sp__law_take) (C__law_pick : Cal P w K mg base 3 "_law_pick" P__law_pick sp__law_pick) : Cal P w K mg base 5 "_law_far" P__law_far sp__law_far :=
  ⟨⟨f, fd, ok__law_far F B R_Rule R_Weights E_SiltError E_BadDay E_BadWeights C__law_take C__law_pick, hm, F.kp, F.binds (ps := P__law_far) fun _ _ _ _ _ _ us hl => match us, hl with | [_], _ => rfl⟩, mono_spR⟩

theorem rowAt_tail {α : Type} [DecidableEq α] [Cell α] (x : α) (f p : List α) (g : Nat) : rowAt f p g = rowAt (x :: f) p (g + 1) := by
  unfold rowAt
  rw [List.length_cons]
  by_cases h : g < f.length
  · rw [if_pos h, if_pos (by omega)]; simp
  · rw [if_neg h, if_neg (by omega), show g + 1 - (f.length + 1) = g - f.length by omega]
theorem rowAt_tail0 (y : Int × Int) (p : List (Int × Int)) (g : Nat) : rowAt [] (p ++ [y]) g = rowAt [] (y :: p) (g + 1) := by
  rw [rowAt_tail y, ← rowAt_turn]; rfl


def sp__law_tail : SpD := spF 1 (fun (a : List (Int × Int) × List (Int × Int)) => [ruleL a.1 a.2]) (fun a => a.2 ≠ [] ∧ a.1.length ≤ 1000 ∧ a.2.length ≤ 1000) (fun a d => ∃ f p, d = ruleL f p ∧ p ≠ [] ∧ f.length ≤ a.1.length ∧ p.length = a.2.length ∧ (∀ g, rowAt f p g = rowAt a.1 a.2 (g + 1)) ∧ ∀ x ∈ f ++ p, x ∈ a.1 ++ a.2)

abbrev s__law_tail : Stmt := top 54
def N__law_tail : List Str := ["told", "front", "period"]
def P__law_tail : List Str := ["told"]
theorem sc__law_tail : FnScope N__law_tail P__law_tail (defScope s__law_tail) := ⟨rfl, rfl, rfl, by decide +kernel, rfl, by decide +kernel, by decide +kernel⟩
theorem ok__law_tail {f : Addr} {fd : FuncData} (F : Fun K "_law_tail" "_law_tail" s__law_tail f fd) (B : Bl K mg C A_Weights) (R_Rule : RuleS K mg C) (R_Weights : WeightsS K mg A_Weights) (E_SiltError : ErrS K mg "SiltError" X_SiltError) (E_BadDay : ErrS K mg "BadDay" X_BadDay) (E_BadWeights : ErrS K mg "BadWeights" X_BadWeights)  : FnOk P w K mg base (L2.CX P w) 1 f fd P__law_tail (spOf K sp__law_tail) := by
  refine fn_ok F sc__law_tail len_spF (io := []) io_spF (fun cdv A outer sh H E hr =>
 (db_cons (ds_asg (vs := [1, 2]) (de_var 0 (pv 0)) (dg_tup (n := 2) rfl (dgs_cons (dg_name (i := 1) (show (_ : Nat) ∉ ([] : List Nat) by decide) (by decide) sc__law_tail.nd (by rfl) (.inl rfl)) (dgs_cons (dg_name (i := 2) (show (_ : Nat) ∉ ([] : List Nat) by decide) (by decide) sc__law_tail.nd (by rfl) (.inl rfl)) dgs_nil))))
 (db_one (ds_ret (de_if (dt_cmp (op_neD (u64_of hr)) ne_s (de_var 1 (pv 1)) (do_lst da_nil).de (nomark _)) (de_tup (da_cons (do_sl (de_var 1 (pv 1)) (dp_some de_int) dp_none).de (da_cons (de_var 2 (pv 2)) da_nil))) (de_tup (da_cons (do_lst da_nil).de (da_cons (do_cat (do_sl (de_var 2 (pv 2)) (dp_some de_int) dp_none).de (do_sl (de_var 2 (pv 2)) dp_none (dp_some de_int)).de).de da_nil)))))))) ?_

  rintro ins Q R ⟨⟨f, p⟩, rfl, l, ⟨hp, hf, hl⟩, k⟩
  dsimp only [sSeq, sIf, sSet, sSetO, sRet, sRetO, sNext, sExpr, wTest, w1, w2, wVar, valOf, Env.at, Env.put, wOD, wLst, wTup, waNil, waCons, waStar, wC, wCall, wCallB, wIf, DL.wTru, truD, wAnd, wOr, DL.wNot, wAndV, wOrV, wNotV, List.map, List.length, List.replicate, List.replicate_succ, List.replicate_zero, DL.putK, OD.toD, o2I, o2I0, addD, mulD, ixD, lenL, lenD, intL, absL, maxL, minL, divmodL, tupleL, blOf, intOf, lstD, tupD, seqOf, outOf, List.tail, Nat.reduceAdd, Nat.reduceSub, wrNil, wrV, wrO, wCallR, wCallRO, takeA, takeK, backA, isOwn, Sl.asD, Sl.asO, spK, noInsO, sAugIx, modL, wIxB, lstOf, wTruB, bor, sExtO, wRep, wSl, wSlB, wCat, wListOf, wpNone, wpSome, DL.isScal, sFor, wRng1, wRng2, gN, gTupD, gConsD, gNilD, sAsg, sPar, parK, wnNil, wnV, wnO, sRetN, ownL, wIsi, isiL, isiD, eqD, neD, wComp, sAug, wGet, isC, wFld, fldD, wMeth, insD, madeK, wrDef, wMut, sRetB, List.nil_append, List.cons_append, DL.D.ty, seqD, gFld, modI, wEnum, wRev1, sumL, allL, anyL, sFreeze, frK, wIter, wIterT, wMake, wBm, idxL, sTry, exmD, sRaise, wEqO, wChain, wDNew, sSetK, modK, dicOf, wDGetB, wDGet, dicD, wDInB, wDGet2B, sAugK, keyD, wOfK, wOfKB, fCopy, fKeys, fSorted, wSortL, wDc, wKeys, wItems, wVals, sForL, noEx, eqK, neK, eqT, neT, ltT, wRng3, kD, N__law_tail, ruleL] at hp hf hl k ⊢
  refine ⟨rfl, rfl, by decide, (cmp_prs f).ok, (cmp_prs []).ok, fun h => ?_, fun h => ?_⟩
  · cases f with
    | nil => simp [D.eqv, D.pd, pdAll, PyData.eqv, PyData.eqvAll] at h
    | cons x f =>
      refine ⟨by decide, trivial, k _ ⟨f, p, ?_, hp, by simp, rfl, rowAt_tail x f p, fun z hz => ?_⟩⟩
      · rw [cut_from _ (by decide)]; rfl
      · rcases List.mem_append.mp hz with h | h
        · exact List.mem_append_left _ (List.mem_cons_of_mem _ h)
        · exact List.mem_append_right _ h
  · have hf0 : f = [] := by
      have := eqv_prs f []
      rw [show ([] : List (Int × Int)).map pairD = [] from rfl] at this
      rw [this] at h
      simpa using h
    subst hf0
    cases p with
    | nil => exact absurd rfl hp
    | cons y p =>
      rw [cut_from _ (by decide), cut_to _ (by decide)]
      refine ⟨by decide, ?_, by decide, trivial, k _ ⟨[], p ++ [y], ?_, by simp, by simp, by simp, rowAt_tail0 y p, fun z hz => ?_⟩⟩
      · have hl' : p.length + 1 ≤ 1000 := hl
        simp only [List.map_cons, List.length_drop, List.length_take, List.length_cons, List.length_map]
        show _ ≤ 16777216
        omega
      · simp
      · simp only [List.nil_append, List.mem_append, List.mem_cons, List.not_mem_nil, or_false] at hz ⊢
        exact hz.symm

theorem cal__law_tail {f : Addr} {fd : FuncData} (F : Fun K "_law_tail" "_law_tail" s__law_tail f fd) (hm : mg "_law_tail" = some (.ref f)) (B : Bl K mg C A_Weights) (R_Rule : RuleS K mg C) (R_Weights : WeightsS K mg A_Weights) (E_SiltError : ErrS K mg "SiltError" X_SiltError) (E_BadDay : ErrS K mg "BadDay" X_BadDay) (E_BadWeights : ErrS K mg "BadWeights" X_BadWeights)  : Cal P w K mg base 1 "_law_tail" P__law_tail sp__law_tail :=
  ⟨⟨f, fd, ok__law_tail F B R_Rule R_Weights E_SiltError E_BadDay E_BadWeights , hm, F.kp, F.binds (ps := P__law_tail) fun _ _ _ _ _ _ us hl => match us, hl with | [_], _ => rfl⟩, mono_spF⟩
end L53
set_option Elab.async false
set_option linter.all false
set_option maxRecDepth 100000
set_option maxHeartbeats 0
namespace L53
open PySem L2 DL
variable {P : Program} {w : World} {K : PySem.W.Frag} {mg : Str → Option Value} {base : Heap} {C A_Weights X_SiltError X_BadDay X_BadWeights : Addr}

/-! ## a rule without its first grade -/
def TailOf (r t : Ru) : Prop := ∀ g, t.at g = r.at (g + 1)
theorem digsF_tail {r t : Ru} (h : TailOf r t) : ∀ (k g : Nat) (n : Int), digsF t k g n = digsF r k (g + 1) n
  | 0, _, _ => rfl
  | k + 1, g, n => by
    unfold digsF
    by_cases z : n ≤ 0
    · rw [if_pos z, if_pos z]
    · rw [if_neg z, if_neg z, h g, digsF_tail h k (g + 1)]
theorem digsR_tail {r t : Ru} (h : TailOf r t) (g : Nat) (n : Int) : digsR t g n = digsR r (g + 1) n := digsF_tail h _ g n
/-- the digits but the first are those of the rule without its first grade -/
theorem digs_behind {r t : Ru} (h : TailOf r t) {n : Int} (hn : 0 ≤ n) : (digsR r 0 n).drop 1 = digsR t 0 (madeR r 1 n) := by
  show _ = digsR t 0 (bakesR (r.at 0) n)
  rw [digsR_tail h]
  by_cases z : n ≤ 0
  · have : n = 0 := by omega
    subst this
    rw [digsR_zero r 0 (Int.le_refl 0), bakesR_zero (r.at_ok 0), digsR_zero r (0 + 1) (Int.le_refl 0)]; rfl
  · rw [digsR_pos r 0 (by omega)]; rfl
theorem madeR_tail {r t : Ru} (h : TailOf r t) (n : Int) : ∀ g, madeR t g (madeR r 1 n) = madeR r (g + 1) n
  | 0 => rfl
  | g + 1 => by
    show bakesR (t.at g) (madeR t g (madeR r 1 n)) = bakesR (r.at (g + 1)) (madeR r (g + 1) n)
    rw [h g, madeR_tail h n g]
theorem sizeR_tail {r t : Ru} (h : TailOf r t) : ∀ g, sizeR r (g + 1) = (r.at 0).2 * sizeR t g
  | 0 => by show 1 * (r.at 0).2 = (r.at 0).2 * 1; rw [Int.one_mul, Int.mul_one]
  | g + 1 => by
    show sizeR r (g + 1) * (r.at (g + 1)).2 = (r.at 0).2 * (sizeR t g * (t.at g).2)
    rw [sizeR_tail h g, h g, Int.mul_assoc]
theorem owedR_tail {r t : Ru} (h : TailOf r t) : ∀ g, owedR r (g + 1) = ((r.at 0).1 - (r.at 0).2) + (r.at 0).2 * owedR t g
  | 0 => by show 0 + 1 * ((r.at 0).1 - (r.at 0).2) = _ + (r.at 0).2 * 0; rw [Int.mul_zero, Int.one_mul]; omega
  | g + 1 => by
    show owedR r (g + 1) + sizeR r (g + 1) * ((r.at (g + 1)).1 - (r.at (g + 1)).2) = _ + (r.at 0).2 * (owedR t g + sizeR t g * ((t.at g).1 - (t.at g).2))
    rw [owedR_tail h g, sizeR_tail h g, h g, Int.mul_add, ← Int.mul_assoc]
    omega
theorem owedR_nn (r : Ru) : ∀ g, 0 ≤ owedR r g
  | 0 => Int.le_refl _
  | g + 1 => by
    show 0 ≤ owedR r g + sizeR r g * ((r.at g).1 - (r.at g).2)
    have h1 := owedR_nn r g; have h2 := sizeR_pos r g; have h3 := (r.at_ok g).le
    have := Int.mul_nonneg (Int.le_of_lt h2) (show 0 ≤ (r.at g).1 - (r.at g).2 by omega)
    omega
theorem bakedF_tail {r t : Ru} (h : TailOf r t) : ∀ (k g : Nat) (n : Int), bakedF r k (g + 1) n = (bakedF t k g n).map (· + 1)
  | 0, _, _ => rfl
  | k + 1, g, n => by
    unfold bakedF
    rw [h g]
    by_cases z : bakesR (r.at (g + 1)) n > bakesR (r.at (g + 1)) (n - 1)
    · rw [if_pos z, if_pos z, bakedF_tail h k (g + 1), List.map_cons]
      congr 1
    · rw [if_neg z, if_neg z]; rfl
/-- what is baked on a day: the first grade, and what the rule without it bakes as its layer comes -/
theorem baked_behind {r t : Ru} (h : TailOf r t) (n : Int) : bakedR r 0 n = if madeR r 1 n > madeR r 1 (n - 1) then 0 :: (bakedR t 0 (madeR r 1 n)).map (· + 1) else [] := by
  rw [bakedR_eq]
  show (if bakesR (r.at 0) n > bakesR (r.at 0) (n - 1) then _ else _) = if bakesR (r.at 0) n > bakesR (r.at 0) (n - 1) then _ else _
  by_cases z : bakesR (r.at 0) n > bakesR (r.at 0) (n - 1)
  · rw [if_pos z, if_pos z]
    congr 1
    exact bakedF_tail h _ 0 _
  · rw [if_neg z, if_neg z]
/-- just ahead of the day on which there are m layers of the grade 1 -/
theorem made_ahead (r : Ru) {m : Int} (hm : 0 < m) : madeR r 1 (owedR r 1 + m * sizeR r 1 - 1) = m - 1 := by
  show bakesR (r.at 0) (0 + 1 * ((r.at 0).1 - (r.at 0).2) + m * (1 * (r.at 0).2) - 1) = m - 1
  have h1 := (r.at_ok 0).lo
  unfold bakesR
  rw [Int.one_mul, Int.one_mul]
  have e : (0 + ((r.at 0).1 - (r.at 0).2) + m * (r.at 0).2 - 1 - (r.at 0).1 + (r.at 0).2) / (r.at 0).2 = m - 1 := by
    rw [show 0 + ((r.at 0).1 - (r.at 0).2) + m * (r.at 0).2 - 1 - (r.at 0).1 + (r.at 0).2 = ((r.at 0).2 - 1) + (m - 1) * (r.at 0).2 by rw [Int.sub_mul]; omega]
    rw [Int.add_mul_ediv_right _ _ (by omega), Int.ediv_eq_zero_of_lt (by omega) (by omega), Int.zero_add]
  rw [e]
  omega
/-- whenever a greater grade is baked, the least one is, too -/
theorem next_both {r t : Ru} (h : TailOf r t) (g : Nat) {M : Int} (hM : 0 < M) : dayMadeR r 1 (madeR r 1 (dayMadeR r (g + 1) M - 1) + 1) = dayMadeR r (g + 1) M := by
  have e : dayMadeR r (g + 1) M = owedR r 1 + (owedR t g + M * sizeR t g) * sizeR r 1 := by
    rw [dayMadeR, if_neg (by omega), owedR_tail h g, sizeR_tail h g]
    show _ = (0 + 1 * ((r.at 0).1 - (r.at 0).2)) + (owedR t g + M * sizeR t g) * (1 * (r.at 0).2)
    rw [Int.add_mul, Int.one_mul, Int.one_mul, Int.zero_add, Int.mul_comm (r.at 0).2 (owedR t g), Int.mul_comm (r.at 0).2 (sizeR t g), Int.mul_assoc]
    omega
  have hm : 0 < owedR t g + M * sizeR t g := by
    have h1 := owedR_nn t g; have := Int.mul_pos hM (sizeR_pos t g); omega
  rw [e, made_ahead r hm, Int.sub_add_cancel, dayMadeR, if_neg (by omega)]

end L53
set_option Elab.async false
set_option linter.all false
set_option maxRecDepth 100000
set_option maxHeartbeats 0
namespace L53
open PySem L2 DL
variable {P : Program} {w : World} {K : PySem.W.Frag} {mg : Str → Option Value} {base : Heap} {C A_Weights X_SiltError X_BadDay X_BadWeights : Addr}

/-! ## layers without the first grade -/
def tripD (x : Int × Int × Int) : D := .tup [.int x.1, .int x.2.1, .int x.2.2]
def blockT (g : Nat) (size : Int) : Nat → Int → List (Int × Int × Int)
  | 0, _ => []
  | k + 1, first => (first, first + size - 1, (g : Int)) :: blockT g size k (first + size)
theorem blockD_eq (g : Nat) (size : Int) : ∀ (k : Nat) (first : Int), blockD g size k first = (blockT g size k first).map tripD
  | 0, _ => rfl
  | k + 1, first => by rw [blockD, blockT, blockD_eq g size k, List.map_cons]; rfl
def laysT (r : Ru) (ds : List Int) : Nat → Int → List (Int × Int × Int)
  | 0, _ => []
  | g + 1, first => blockT g (sizeR r g) (ds.getD g 0).toNat first ++ laysT r ds g (first + (ds.getD g 0).toNat * sizeR r g)
theorem laysD_eq (r : Ru) (ds : List Int) : ∀ (g : Nat) (first : Int), laysD r ds g first = (laysT r ds g first).map tripD
  | 0, _ => rfl
  | g + 1, first => by rw [laysD, laysT, blockD_eq, laysD_eq r ds g, List.map_append]
/-- a layer of the rule without its first grade, told in the days of the whole one -/
def liftT (b : Int) (x : Int × Int × Int) : Int × Int × Int := ((x.1 - 1) * b + 1, x.2.1 * b, x.2.2 + 1)
theorem blockT_lift (g : Nat) (size b : Int) : ∀ (k : Nat) (f : Int), blockT (g + 1) (b * size) k ((f - 1) * b + 1) = (blockT g size k f).map (liftT b)
  | 0, _ => rfl
  | k + 1, f => by
    rw [blockT, blockT, List.map_cons]
    have e1 : (f - 1) * b + 1 + b * size = (f + size - 1) * b + 1 := by
      rw [show f + size - 1 = (f - 1) + size by omega, Int.add_mul, Int.mul_comm size b]; omega
    have e2 : (f - 1) * b + 1 + b * size - 1 = (f + size - 1) * b := by omega
    rw [e2, e1, blockT_lift g size b k (f + size)]
    rfl
theorem laysT_lift {r t : Ru} (h : TailOf r t) (d : Int) (ds : List Int) : ∀ (m : Nat) (f : Int), ∃ F, laysT r (d :: ds) (m + 1) ((f - 1) * (r.at 0).2 + 1) = (laysT t ds m f).map (liftT (r.at 0).2) ++ blockT 0 1 d.toNat F
  | 0, f => ⟨_, by
    rw [laysT, laysT, laysT]
    simp only [List.getD_cons_zero, List.append_nil, List.map_nil, List.nil_append]
    rfl⟩
  | m + 1, f => by
    obtain ⟨F, hF⟩ := laysT_lift h d ds m (f + (ds.getD m 0).toNat * sizeR t m)
    refine ⟨F, ?_⟩
    show blockT (m + 1) (sizeR r (m + 1)) ((d :: ds).getD (m + 1) 0).toNat ((f - 1) * (r.at 0).2 + 1) ++ laysT r (d :: ds) (m + 1) ((f - 1) * (r.at 0).2 + 1 + ((d :: ds).getD (m + 1) 0).toNat * sizeR r (m + 1)) = (blockT m (sizeR t m) (ds.getD m 0).toNat f ++ laysT t ds m (f + (ds.getD m 0).toNat * sizeR t m)).map (liftT (r.at 0).2) ++ blockT 0 1 d.toNat F
    have e : (f - 1) * (r.at 0).2 + 1 + ((ds.getD m 0).toNat : Int) * ((r.at 0).2 * sizeR t m) = (f + (ds.getD m 0).toNat * sizeR t m - 1) * (r.at 0).2 + 1 := by
      rw [show f + ((ds.getD m 0).toNat : Int) * sizeR t m - 1 = (f - 1) + ((ds.getD m 0).toNat : Int) * sizeR t m by omega, Int.add_mul, Int.mul_comm (r.at 0).2 (sizeR t m), ← Int.mul_assoc]
      omega
    rw [List.map_append, List.append_assoc, ← hF, List.getD_cons_succ, sizeR_tail h m, blockT_lift, e]
/-- the layers of the grades from 1 on come first, and are those of the rule without its first grade -/
theorem lays_behind {r t : Ru} (h : TailOf r t) (d : Int) (ds : List Int) : (laysT r (d :: ds) (ds.length + 1) 1).take (laysT t ds ds.length 1).length = (laysT t ds ds.length 1).map (liftT (r.at 0).2) := by
  obtain ⟨F, hF⟩ := laysT_lift h d ds ds.length 1
  rw [show ((1 : Int) - 1) * (r.at 0).2 + 1 = 1 by omega] at hF
  rw [hF, List.take_append_of_le_length (by rw [List.length_map]; exact Nat.le_refl _), List.take_of_length_le (by rw [List.length_map]; exact Nat.le_refl _)]
theorem eqv_trip (x y : Int × Int × Int) : PyData.eqv (tripD x).pd (tripD y).pd = decide (x = y) := by
  obtain ⟨a, b, c⟩ := x
  obtain ⟨d, e, f⟩ := y
  simp only [tripD, D.pd, pdAll, PyData.eqv, PyData.eqvAll, Bool.and_true]
  by_cases h : a = d <;> by_cases h2 : b = e <;> by_cases h3 : c = f <;> simp [h, h2, h3]
theorem eqv_trips (xs ys : List (Int × Int × Int)) : D.eqv (.lst (xs.map tripD)) (.lst (ys.map tripD)) = decide (xs = ys) := by
  unfold D.eqv
  rw [D.pd, D.pd, PyData.eqv, eqvAll_iff tripD eqv_trip]
theorem cmp_trips (xs : List (Int × Int × Int)) : Cmp 2 (.lst (xs.map tripD)) := .lst fun d hd => by
  obtain ⟨p, _, rfl⟩ := List.mem_map.mp hd
  exact .tup fun d hd => by
    simp only [List.mem_cons, List.not_mem_nil, or_false] at hd
    rcases hd with rfl | rfl | rfl <;> exact .int _

end L53
set_option Elab.async false
set_option linter.all false
set_option maxRecDepth 100000
set_option maxHeartbeats 0
namespace L53
open PySem L2 DL
variable {P : Program} {w : World} {K : PySem.W.Frag} {mg : Str → Option Value} {base : Heap} {C A_Weights X_SiltError X_BadDay X_BadWeights : Addr}

def sp_least_digit : SpD := spF 1 (fun (a : Int × Int) => [pairD a]) (fun _ => True) (fun a d => d = .int (a.1 - a.2))

abbrev s_least_digit : Stmt := top 14
def N_least_digit : List Str := ["pair", "most", "many"]
def P_least_digit : List Str := ["pair"]
theorem sc_least_digit : FnScope N_least_digit P_least_digit (defScope s_least_digit) := ⟨rfl, rfl, rfl, by decide +kernel, rfl, by decide +kernel, by decide +kernel⟩
theorem ok_least_digit {f : Addr} {fd : FuncData} (F : Fun K "least_digit" "least_digit" s_least_digit f fd) (B : Bl K mg C A_Weights) (R_Rule : RuleS K mg C) (R_Weights : WeightsS K mg A_Weights) (E_SiltError : ErrS K mg "SiltError" X_SiltError) (E_BadDay : ErrS K mg "BadDay" X_BadDay) (E_BadWeights : ErrS K mg "BadWeights" X_BadWeights)  : FnOk P w K mg base (L2.CX P w) 1 f fd P_least_digit (spOf K sp_least_digit) := by
  refine fn_ok F sc_least_digit len_spF (io := []) io_spF (fun cdv A outer sh H E hr =>
 (db_cons (ds_asg (vs := [1, 2]) (de_var 0 (pv 0)) (dg_tup (n := 2) rfl (dgs_cons (dg_name (i := 1) (show (_ : Nat) ∉ ([] : List Nat) by decide) (by decide) sc_least_digit.nd (by rfl) (.inl rfl)) (dgs_cons (dg_name (i := 2) (show (_ : Nat) ∉ ([] : List Nat) by decide) (by decide) sc_least_digit.nd (by rfl) (.inl rfl)) dgs_nil))))
 (db_one (ds_ret (de_sub (de_var 1 (pv 1)) (de_var 2 (pv 2))))))) ?_

  rintro ins Q R ⟨p, rfl, l, -, k⟩
  dsimp only [sSeq, sIf, sSet, sSetO, sRet, sRetO, sNext, sExpr, wTest, w1, w2, wVar, valOf, Env.at, Env.put, wOD, wLst, wTup, waNil, waCons, waStar, wC, wCall, wCallB, wIf, DL.wTru, truD, wAnd, wOr, DL.wNot, wAndV, wOrV, wNotV, List.map, List.length, List.replicate, List.replicate_succ, List.replicate_zero, DL.putK, OD.toD, o2I, o2I0, addD, mulD, ixD, lenL, lenD, intL, absL, maxL, minL, divmodL, tupleL, blOf, intOf, lstD, tupD, seqOf, outOf, List.tail, Nat.reduceAdd, Nat.reduceSub, wrNil, wrV, wrO, wCallR, wCallRO, takeA, takeK, backA, isOwn, Sl.asD, Sl.asO, spK, noInsO, sAugIx, modL, wIxB, lstOf, wTruB, bor, sExtO, wRep, wSl, wSlB, wCat, wListOf, wpNone, wpSome, DL.isScal, sFor, wRng1, wRng2, gN, gTupD, gConsD, gNilD, sAsg, sPar, parK, wnNil, wnV, wnO, sRetN, ownL, wIsi, isiL, isiD, eqD, neD, wComp, sAug, wGet, isC, wFld, fldD, wMeth, insD, madeK, wrDef, wMut, sRetB, List.nil_append, List.cons_append, DL.D.ty, seqD, gFld, modI, wEnum, wRev1, sumL, allL, anyL, sFreeze, frK, wIter, wIterT, wMake, wBm, idxL, sTry, exmD, sRaise, wEqO, wChain, wDNew, sSetK, modK, dicOf, wDGetB, wDGet, dicD, wDInB, wDGet2B, sAugK, keyD, wOfK, wOfKB, fCopy, fKeys, fSorted, wSortL, wDc, wKeys, wItems, wVals, sForL, noEx, eqK, neK, eqT, neT, ltT, wRng3, kD, N_least_digit, pairD] at k ⊢
  exact ⟨rfl, rfl, trivial, k _ rfl⟩

theorem cal_least_digit {f : Addr} {fd : FuncData} (F : Fun K "least_digit" "least_digit" s_least_digit f fd) (hm : mg "least_digit" = some (.ref f)) (B : Bl K mg C A_Weights) (R_Rule : RuleS K mg C) (R_Weights : WeightsS K mg A_Weights) (E_SiltError : ErrS K mg "SiltError" X_SiltError) (E_BadDay : ErrS K mg "BadDay" X_BadDay) (E_BadWeights : ErrS K mg "BadWeights" X_BadWeights)  : Cal P w K mg base 1 "least_digit" P_least_digit sp_least_digit :=
  ⟨⟨f, fd, ok_least_digit F B R_Rule R_Weights E_SiltError E_BadDay E_BadWeights , hm, F.kp, F.binds (ps := P_least_digit) fun _ _ _ _ _ _ us hl => match us, hl with | [_], _ => rfl⟩, mono_spF⟩

def sp_greatest_digit : SpD := spF 1 (fun (a : Int × Int) => [pairD a]) (fun _ => True) (fun a d => d = .int (a.1 - 1))

abbrev s_greatest_digit : Stmt := top 16
def N_greatest_digit : List Str := ["pair"]
def P_greatest_digit : List Str := ["pair"]
theorem sc_greatest_digit : FnScope N_greatest_digit P_greatest_digit (defScope s_greatest_digit) := ⟨rfl, rfl, rfl, by decide +kernel, rfl, by decide +kernel, by decide +kernel⟩
theorem ok_greatest_digit {f : Addr} {fd : FuncData} (F : Fun K "greatest_digit" "greatest_digit" s_greatest_digit f fd) (B : Bl K mg C A_Weights) (R_Rule : RuleS K mg C) (R_Weights : WeightsS K mg A_Weights) (E_SiltError : ErrS K mg "SiltError" X_SiltError) (E_BadDay : ErrS K mg "BadDay" X_BadDay) (E_BadWeights : ErrS K mg "BadWeights" X_BadWeights)  : FnOk P w K mg base (L2.CX P w) 1 f fd P_greatest_digit (spOf K sp_greatest_digit) := by
  refine fn_ok F sc_greatest_digit len_spF (io := []) io_spF (fun cdv A outer sh H E hr =>
 (db_one (ds_ret (de_sub (de_ix (de_var 0 (pv 0)) de_int (fun _ _ => rfl)) de_int)))) ?_

  rintro ins Q R ⟨p, rfl, l, -, k⟩
  dsimp only [sSeq, sIf, sSet, sSetO, sRet, sRetO, sNext, sExpr, wTest, w1, w2, wVar, valOf, Env.at, Env.put, wOD, wLst, wTup, waNil, waCons, waStar, wC, wCall, wCallB, wIf, DL.wTru, truD, wAnd, wOr, DL.wNot, wAndV, wOrV, wNotV, List.map, List.length, List.replicate, List.replicate_succ, List.replicate_zero, DL.putK, OD.toD, o2I, o2I0, addD, mulD, ixD, lenL, lenD, intL, absL, maxL, minL, divmodL, tupleL, blOf, intOf, lstD, tupD, seqOf, outOf, List.tail, Nat.reduceAdd, Nat.reduceSub, wrNil, wrV, wrO, wCallR, wCallRO, takeA, takeK, backA, isOwn, Sl.asD, Sl.asO, spK, noInsO, sAugIx, modL, wIxB, lstOf, wTruB, bor, sExtO, wRep, wSl, wSlB, wCat, wListOf, wpNone, wpSome, DL.isScal, sFor, wRng1, wRng2, gN, gTupD, gConsD, gNilD, sAsg, sPar, parK, wnNil, wnV, wnO, sRetN, ownL, wIsi, isiL, isiD, eqD, neD, wComp, sAug, wGet, isC, wFld, fldD, wMeth, insD, madeK, wrDef, wMut, sRetB, List.nil_append, List.cons_append, DL.D.ty, seqD, gFld, modI, wEnum, wRev1, sumL, allL, anyL, sFreeze, frK, wIter, wIterT, wMake, wBm, idxL, sTry, exmD, sRaise, wEqO, wChain, wDNew, sSetK, modK, dicOf, wDGetB, wDGet, dicD, wDInB, wDGet2B, sAugK, keyD, wOfK, wOfKB, fCopy, fKeys, fSorted, wSortL, wDc, wKeys, wItems, wVals, sForL, noEx, eqK, neK, eqT, neT, ltT, wRng3, kD, N_greatest_digit, pairD] at k ⊢
  exact ⟨.int p.1, rfl, trivial, k _ rfl⟩

theorem cal_greatest_digit {f : Addr} {fd : FuncData} (F : Fun K "greatest_digit" "greatest_digit" s_greatest_digit f fd) (hm : mg "greatest_digit" = some (.ref f)) (B : Bl K mg C A_Weights) (R_Rule : RuleS K mg C) (R_Weights : WeightsS K mg A_Weights) (E_SiltError : ErrS K mg "SiltError" X_SiltError) (E_BadDay : ErrS K mg "BadDay" X_BadDay) (E_BadWeights : ErrS K mg "BadWeights" X_BadWeights)  : Cal P w K mg base 1 "greatest_digit" P_greatest_digit sp_greatest_digit :=
  ⟨⟨f, fd, ok_greatest_digit F B R_Rule R_Weights E_SiltError E_BadDay E_BadWeights , hm, F.kp, F.binds (ps := P_greatest_digit) fun _ _ _ _ _ _ us hl => match us, hl with | [_], _ => rfl⟩, mono_spF⟩

/-- digits that some day has, from the grade g on -/
def DigOk (r : Ru) : Nat → List Int → Prop
  | _, [] => True
  | g, [d] => 1 ≤ d ∧ d < (r.at g).1
  | g, d :: e :: ds => (r.at g).1 - (r.at g).2 ≤ d ∧ d < (r.at g).1 ∧ DigOk r (g + 1) (e :: ds)
/-- digits times sizes, from the grade g on -/
def sumW (r : Ru) : Nat → List Int → Int
  | _, [] => 0
  | g, d :: ds => d * sizeR r g + sumW r (g + 1) ds
theorem DigOk.head {r : Ru} {g : Nat} {d : Int} : ∀ {ds : List Int}, DigOk r g (d :: ds) → (if ds = [] then 1 else (r.at g).1 - (r.at g).2) ≤ d ∧ d < (r.at g).1 ∧ DigOk r (g + 1) ds
  | [], h => ⟨by simpa using h.1, h.2, trivial⟩
  | e :: ds, h => ⟨by simpa using h.1, h.2.1, h.2.2⟩


def sp_is_digit : SpD := spF 3 (fun (a : (Int × Int) × Int × Bool) => [pairD a.1, .int a.2.1, .bl a.2.2]) (fun _ => True) (fun a d => d = .bl (decide ((if a.2.2 = true then 1 else a.1.1 - a.1.2) ≤ a.2.1 ∧ a.2.1 < a.1.1)))

abbrev s_is_digit : Stmt := top 15
def N_is_digit : List Str := ["pair", "digit", "is_last"]
def P_is_digit : List Str := ["pair", "digit", "is_last"]
theorem sc_is_digit : FnScope N_is_digit P_is_digit (defScope s_is_digit) := ⟨rfl, rfl, rfl, by decide +kernel, rfl, by decide +kernel, by decide +kernel⟩
theorem ok_is_digit {f : Addr} {fd : FuncData} (F : Fun K "is_digit" "is_digit" s_is_digit f fd) (B : Bl K mg C A_Weights) (R_Rule : RuleS K mg C) (R_Weights : WeightsS K mg A_Weights) (E_SiltError : ErrS K mg "SiltError" X_SiltError) (E_BadDay : ErrS K mg "BadDay" X_BadDay) (E_BadWeights : ErrS K mg "BadWeights" X_BadWeights) (C_is_whole : CalD P w K mg base 1 "is_whole" P_is_whole sp_is_whole [.int 0]) (C_least_digit : Cal P w K mg base 1 "least_digit" P_least_digit sp_least_digit) (C_greatest_digit : Cal P w K mg base 1 "greatest_digit" P_greatest_digit sp_greatest_digit) : FnOk P w K mg base (L2.CX P w) 3 f fd P_is_digit (spOf K sp_is_digit) := by
  refine fn_ok F sc_is_digit len_spF (io := []) io_spF (fun cdv A outer sh H E hr =>
 (db_one (ds_ret (de_and (de_c C_is_whole.cal (hr.mono (by decide)) (by rfl) (takes_of rfl rfl rfl rfl) (dr_v (de_var 1 (pv 1)) (dr_v (de_if (dt_tru (de_var 2 (pv 2)) (fun _ => rfl)) de_int (de_c C_least_digit (hr.mono (by decide)) (by rfl) (takes_of rfl rfl rfl rfl) (dr_v (de_var 0 (pv 0)) dr_nil))) dr_nil))) (de_one (de_cmp op_le (ops_I0 fun _ _ _ => .bl _) (de_var 1 (pv 1)) (de_c C_greatest_digit (hr.mono (by decide)) (by rfl) (takes_of rfl rfl rfl rfl) (dr_v (de_var 0 (pv 0)) dr_nil)) (nomark _))))))) ?_

  rintro ins Q R ⟨⟨p, z, b⟩, rfl, l, -, k⟩
  dsimp only [sSeq, sIf, sSet, sSetO, sRet, sRetO, sNext, sExpr, wTest, w1, w2, wVar, valOf, Env.at, Env.put, wOD, wLst, wTup, waNil, waCons, waStar, wC, wCall, wCallB, wIf, DL.wTru, truD, wAnd, wOr, DL.wNot, wAndV, wOrV, wNotV, List.map, List.length, List.replicate, List.replicate_succ, List.replicate_zero, DL.putK, OD.toD, o2I, o2I0, addD, mulD, ixD, lenL, lenD, intL, absL, maxL, minL, divmodL, tupleL, blOf, intOf, lstD, tupD, seqOf, outOf, List.tail, Nat.reduceAdd, Nat.reduceSub, wrNil, wrV, wrO, wCallR, wCallRO, takeA, takeK, backA, isOwn, Sl.asD, Sl.asO, spK, noInsO, sAugIx, modL, wIxB, lstOf, wTruB, bor, sExtO, wRep, wSl, wSlB, wCat, wListOf, wpNone, wpSome, DL.isScal, sFor, wRng1, wRng2, gN, gTupD, gConsD, gNilD, sAsg, sPar, parK, wnNil, wnV, wnO, sRetN, ownL, wIsi, isiL, isiD, eqD, neD, wComp, sAug, wGet, isC, wFld, fldD, wMeth, insD, madeK, wrDef, wMut, sRetB, List.nil_append, List.cons_append, DL.D.ty, seqD, gFld, modI, wEnum, wRev1, sumL, allL, anyL, sFreeze, frK, wIter, wIterT, wMake, wBm, idxL, sTry, exmD, sRaise, wEqO, wChain, wDNew, sSetK, modK, dicOf, wDGetB, wDGet, dicD, wDInB, wDGet2B, sAugK, keyD, wOfK, wOfKB, fCopy, fKeys, fSorted, wSortL, wDc, wKeys, wItems, wVals, sForL, noEx, eqK, neK, eqT, neT, ltT, wRng3, kD, N_is_digit] at k ⊢
  have fin : ∀ c : Bool, c = decide ((if b = true then 1 else p.1 - p.2) ≤ z ∧ z < p.1) → Q (.v (.bl c)) [.no, .no, .no] := fun c hc => k _ (by rw [hc])
  cases b
  · refine ⟨fun h => by (cases h), fun _ => ?_⟩
    refine ⟨p, rfl, rfl, trivial, fun d hd => ?_⟩
    subst hd
    refine ⟨(z, p.1 - p.2), rfl, rfl, trivial, fun d hd => ?_⟩
    subst hd
    refine ⟨fun h => ?_, fun h => ?_⟩
    · have h : p.1 - p.2 ≤ z := of_decide_eq_true h
      refine ⟨p, rfl, rfl, trivial, fun d hd => ?_⟩
      subst hd
      exact ⟨trivial, fin _ (decide_eq_decide.mpr (by simp; omega))⟩
    · have h : ¬ p.1 - p.2 ≤ z := of_decide_eq_false h
      exact ⟨trivial, fin _ (by symm; apply decide_eq_false; simp; omega)⟩
  · refine ⟨fun _ => ?_, fun h => by (cases h)⟩
    refine ⟨(z, 1), rfl, rfl, trivial, fun d hd => ?_⟩
    subst hd
    refine ⟨fun h => ?_, fun h => ?_⟩
    · have h : 1 ≤ z := of_decide_eq_true h
      refine ⟨p, rfl, rfl, trivial, fun d hd => ?_⟩
      subst hd
      exact ⟨trivial, fin _ (decide_eq_decide.mpr (by simp; omega))⟩
    · have h : ¬ 1 ≤ z := of_decide_eq_false h
      exact ⟨trivial, fin _ (by symm; apply decide_eq_false; simp; omega)⟩

theorem cal_is_digit {f : Addr} {fd : FuncData} (F : Fun K "is_digit" "is_digit" s_is_digit f fd) (hm : mg "is_digit" = some (.ref f)) (B : Bl K mg C A_Weights) (R_Rule : RuleS K mg C) (R_Weights : WeightsS K mg A_Weights) (E_SiltError : ErrS K mg "SiltError" X_SiltError) (E_BadDay : ErrS K mg "BadDay" X_BadDay) (E_BadWeights : ErrS K mg "BadWeights" X_BadWeights) (C_is_whole : CalD P w K mg base 1 "is_whole" P_is_whole sp_is_whole [.int 0]) (C_least_digit : Cal P w K mg base 1 "least_digit" P_least_digit sp_least_digit) (C_greatest_digit : Cal P w K mg base 1 "greatest_digit" P_greatest_digit sp_greatest_digit) : Cal P w K mg base 3 "is_digit" P_is_digit sp_is_digit :=
  ⟨⟨f, fd, ok_is_digit F B R_Rule R_Weights E_SiltError E_BadDay E_BadWeights C_is_whole C_least_digit C_greatest_digit, hm, F.kp, F.binds (ps := P_is_digit) fun _ _ _ _ _ _ us hl => match us, hl with | [_, _, _], _ => rfl⟩, mono_spF⟩

def sp_day_of (C : Addr) : SpD := spF 2 (fun (a : Ru × List Int) => [ruleD C a.1, .lst (a.2.map .int)]) (fun a => DigOk a.1 0 a.2 ∧ a.2.length < 100000) (fun a d => d = .int (sumW a.1 0 a.2))

abbrev s_day_of : Stmt := top 28
def N_day_of : List Str := ["rule", "told", "day", "days", "grade", "digit", "pair"]
def P_day_of : List Str := ["rule", "told"]
theorem sc_day_of : FnScope N_day_of P_day_of (defScope s_day_of) := ⟨rfl, rfl, rfl, by decide +kernel, rfl, by decide +kernel, by decide +kernel⟩
-- [('raise', 'raise BadDigits(None)'), ('raise', 'raise BadDigits(grade)')]
theorem ok_day_of {f : Addr} {fd : FuncData} (F : Fun K "day_of" "day_of" s_day_of f fd) (B : Bl K mg C A_Weights) (R_Rule : RuleS K mg C) (R_Weights : WeightsS K mg A_Weights) (E_SiltError : ErrS K mg "SiltError" X_SiltError) (E_BadDay : ErrS K mg "BadDay" X_BadDay) (E_BadWeights : ErrS K mg "BadWeights" X_BadWeights) (C_Rule___getitem__ : CalG P w K mg base C 2 P_Rule___getitem__ (sp_Rule___getitem__ C)) (C_need_rule : Cal P w K mg base 1 "need_rule" P_need_rule (sp_need_rule C)) (C_is_digit : Cal P w K mg base 3 "is_digit" P_is_digit sp_is_digit) : FnOk P w K mg base (L2.CX P w) 6 f fd P_day_of (spOf K (sp_day_of C)) := by
  refine fn_ok F sc_day_of len_spF (io := []) io_spF (fun cdv A outer sh H E hr =>
 (db_cons (ds_expr (de_c C_need_rule (hr.mono (by decide)) (by rfl) (takes_of rfl rfl rfl rfl) (dr_v (de_var 0 (pv 0)) dr_nil)))
 (db_cons (ds_if (dt_not (dt_tru (de_isiT (cs := [.ty "list", .ty "tuple"]) (by rfl) B.isinstance (de_var 1 (pv 1)) (pa_cons (pe_bltn (v := .ty "list") (by rfl) B.list (by rfl) rfl) (pa_cons (pe_bltn (v := .ty "tuple") (by rfl) B.tuple (by rfl) rfl) pa_nil)) (.cons (.ty "list") (.cons (.ty "tuple") .nil)) (by decide) B.isc B.tn B.k_list_tuple) (fun _ => rfl))) (db_one ds_dead) db_nil)
 (db_cons (ds_asg (vs := [2, 3]) (de_tup (da_cons de_int (da_cons de_int da_nil))) (dg_tup (n := 2) rfl (dgs_cons (dg_name (i := 2) (show (_ : Nat) ∉ ([] : List Nat) by decide) (by decide) sc_day_of.nd (by rfl) (.inl rfl)) (dgs_cons (dg_name (i := 3) (show (_ : Nat) ∉ ([] : List Nat) by decide) (by decide) sc_day_of.nd (by rfl) (.inl rfl)) dgs_nil))))
 (db_cons (ds_for (vs := [4, 5]) (passes_of rfl) rfl (di_enum (by rfl) B.enumerate (da_cons (de_var 1 (pv 1)) da_nil) (fun t pt => pi_enum (by rfl) B.enumerate pt)) (dg_tup (n := 2) rfl (dgs_cons (dg_name (i := 4) (show (_ : Nat) ∉ ([] : List Nat) by decide) (by decide) sc_day_of.nd (by rfl) (.inl rfl)) (dgs_cons (dg_name (i := 5) (show (_ : Nat) ∉ ([] : List Nat) by decide) (by decide) sc_day_of.nd (by rfl) (.inl rfl)) dgs_nil))) (db_cons (ds_set (i := 6) (show (_ : Nat) ∉ ([] : List Nat) by decide) sc_day_of.nd (by rfl) (.inl rfl) (de_g C_Rule___getitem__ (de_var 0 (pv 0)) (de_var 4 (pv 4)) (hr.mono (by decide)) (takes_of rfl rfl rfl rfl)))
 (db_cons (ds_if (dt_not (dt_tru (de_c C_is_digit (hr.mono (by decide)) (by rfl) (takes_of rfl rfl rfl rfl) (dr_v (de_var 6 (pv 6)) (dr_v (de_var 5 (pv 5)) (dr_v (de_cmp (op_eqD (u64_of hr)) eq_s (de_var 4 (pv 4)) (de_sub (de_callB call_len len_s (by rfl) B.len (by rfl) (da_cons (de_var 1 (pv 1)) da_nil)) de_int) (nomark _)) dr_nil)))) (fun _ => rfl))) (db_one ds_dead) db_nil)
 (db_cons (ds_aug (i := 2) (show (_ : Nat) ∉ ([] : List Nat) by decide) sc_day_of.nd (by rfl) (.inl rfl) iop_add iadd_s (de_mul (de_var 5 (pv 5)) (de_var 3 (pv 3))))
 (db_one (ds_aug (i := 3) (show (_ : Nat) ∉ ([] : List Nat) by decide) sc_day_of.nd (by rfl) (.inl rfl) iop_mul imul_s (de_ix (de_var 6 (pv 6)) de_int (fun _ _ => rfl))))))))
 (db_one (ds_ret (de_var 2 (pv 2))))))))) ?_

  rintro ins Q R ⟨⟨r, told⟩, rfl, l, ⟨h1, h2⟩, k⟩
  dsimp only [sSeq, sIf, sSet, sSetO, sRet, sRetO, sNext, sExpr, wTest, w1, w2, wVar, valOf, Env.at, Env.put, wOD, wLst, wTup, waNil, waCons, waStar, wC, wCall, wCallB, wIf, DL.wTru, truD, wAnd, wOr, DL.wNot, wAndV, wOrV, wNotV, List.map, List.length, List.replicate, List.replicate_succ, List.replicate_zero, DL.putK, OD.toD, o2I, o2I0, addD, mulD, ixD, lenL, lenD, intL, absL, maxL, minL, divmodL, tupleL, blOf, intOf, lstD, tupD, seqOf, outOf, List.tail, Nat.reduceAdd, Nat.reduceSub, wrNil, wrV, wrO, wCallR, wCallRO, takeA, takeK, backA, isOwn, Sl.asD, Sl.asO, spK, noInsO, sAugIx, modL, wIxB, lstOf, wTruB, bor, sExtO, wRep, wSl, wSlB, wCat, wListOf, wpNone, wpSome, DL.isScal, sFor, wRng1, wRng2, gN, gTupD, gConsD, gNilD, sAsg, sPar, parK, wnNil, wnV, wnO, sRetN, ownL, wIsi, isiL, isiD, eqD, neD, wComp, sAug, wGet, isC, wFld, fldD, wMeth, insD, madeK, wrDef, wMut, sRetB, List.nil_append, List.cons_append, DL.D.ty, seqD, gFld, modI, wEnum, wRev1, sumL, allL, anyL, sFreeze, frK, wIter, wIterT, wMake, wBm, idxL, sTry, exmD, sRaise, wEqO, wChain, wDNew, sSetK, modK, dicOf, wDGetB, wDGet, dicD, wDInB, wDGet2B, sAugK, keyD, wOfK, wOfKB, fCopy, fKeys, fSorted, wSortL, wDc, wKeys, wItems, wVals, sForL, noEx, eqK, neK, eqT, neT, ltT, wRng3, kD, N_day_of] at h1 h2 k ⊢
  refine ⟨r, rfl, rfl, trivial, fun d hd => ?_⟩
  subst hd
  refine ⟨by simp [tys], fun _ => ⟨fun z => by (cases z), fun _ => ?_⟩, fun z => (z (by simp)).elim⟩
  refine ⟨by decide, rfl, rfl, ?_⟩
  refine forGo_inv (fun ds ρ => ∃ (i : Nat) (zs : List Int) (acc : Int) (s1 s2 s3 : Sl), ds = enumD i (zs.map .int) ∧ ρ = [.v (ruleD C r), .v (.lst (told.map .int)), .v (.int acc), .v (.int (sizeR r i)), s1, s2, s3] ∧ noIns s1 ∧ noIns s2 ∧ noIns s3 ∧ DigOk r i zs ∧ i + zs.length = told.length ∧ acc + sumW r i zs = sumW r 0 told) (fun d ds ρ hI P hP => ?_) (fun ρ hI => ?_) _ _ ⟨0, told, 0, .no, .no, .no, rfl, rfl, trivial, trivial, trivial, h1, by omega, by omega⟩
  · obtain ⟨i, zs, acc, s1, s2, s3, e, rfl, hs1, hs2, hs3, hd, hi, hsum⟩ := hI
    cases zs with
    | nil => cases e
    | cons z zs =>
      obtain ⟨rfl, rfl⟩ := List.cons.inj e
      refine ⟨rfl, putK_intro (by simp) hs1 (putK_intro (by simp [Env.put_len]) hs2 ⟨rfl, ?_⟩)⟩
      dsimp only [sSeq, sIf, sSet, sSetO, sRet, sRetO, sNext, sExpr, wTest, w1, w2, wVar, valOf, Env.at, Env.put, wOD, wLst, wTup, waNil, waCons, waStar, wC, wCall, wCallB, wIf, DL.wTru, truD, wAnd, wOr, DL.wNot, wAndV, wOrV, wNotV, List.map, List.length, List.replicate, List.replicate_succ, List.replicate_zero, OD.toD, o2I, o2I0, addD, mulD, ixD, lenL, lenD, intL, absL, maxL, minL, divmodL, tupleL, blOf, intOf, lstD, tupD, seqOf, outOf, List.tail, Nat.reduceAdd, Nat.reduceSub, wrNil, wrV, wrO, wCallR, wCallRO, takeA, takeK, backA, isOwn, Sl.asD, Sl.asO, spK, noInsO, sAugIx, modL, wIxB, lstOf, wTruB, bor, sExtO, wRep, wSl, wSlB, wCat, wListOf, wpNone, wpSome, DL.isScal, sFor, wRng1, wRng2, gN, gTupD, gConsD, gNilD, sAsg, sPar, parK, wnNil, wnV, wnO, sRetN, ownL, wIsi, isiL, isiD, eqD, neD, wComp, sAug, wGet, isC, wFld, fldD, wMeth, insD, madeK, wrDef, wMut, sRetB, List.nil_append, List.cons_append, DL.D.ty, seqD, gFld, modI, wEnum, wRev1, sumL, allL, anyL, sFreeze, frK, wIter, wIterT, wMake, wBm, idxL, sTry, exmD, sRaise, wEqO, wChain, wDNew, sSetK, modK, dicOf, wDGetB, wDGet, dicD, wDInB, wDGet2B, sAugK, keyD, wOfK, wOfKB, fCopy, fKeys, fSorted, wSortL, wDc, wKeys, wItems, wVals, sForL, noEx, eqK, neK, eqT, neT, ltT, wRng3, kD]
      refine ⟨rfl, (r, i), rfl, rfl, trivial, fun d hd => ?_⟩
      subst hd
      refine putK_intro (by simp) hs3 ?_
      dsimp only [sSeq, sIf, sSet, sSetO, sRet, sRetO, sNext, sExpr, wTest, w1, w2, wVar, valOf, Env.at, Env.put, wOD, wLst, wTup, waNil, waCons, waStar, wC, wCall, wCallB, wIf, DL.wTru, truD, wAnd, wOr, DL.wNot, wAndV, wOrV, wNotV, List.map, List.length, List.replicate, List.replicate_succ, List.replicate_zero, OD.toD, o2I, o2I0, addD, mulD, ixD, lenL, lenD, intL, absL, maxL, minL, divmodL, tupleL, blOf, intOf, lstD, tupD, seqOf, outOf, List.tail, Nat.reduceAdd, Nat.reduceSub, wrNil, wrV, wrO, wCallR, wCallRO, takeA, takeK, backA, isOwn, Sl.asD, Sl.asO, spK, noInsO, sAugIx, modL, wIxB, lstOf, wTruB, bor, sExtO, wRep, wSl, wSlB, wCat, wListOf, wpNone, wpSome, DL.isScal, sFor, wRng1, wRng2, gN, gTupD, gConsD, gNilD, sAsg, sPar, parK, wnNil, wnV, wnO, sRetN, ownL, wIsi, isiL, isiD, eqD, neD, wComp, sAug, wGet, isC, wFld, fldD, wMeth, insD, madeK, wrDef, wMut, sRetB, List.nil_append, List.cons_append, DL.D.ty, seqD, gFld, modI, wEnum, wRev1, sumL, allL, anyL, sFreeze, frK, wIter, wIterT, wMake, wBm, idxL, sTry, exmD, sRaise, wEqO, wChain, wDNew, sSetK, modK, dicOf, wDGetB, wDGet, dicD, wDInB, wDGet2B, sAugK, keyD, wOfK, wOfKB, fCopy, fKeys, fSorted, wSortL, wDc, wKeys, wItems, wVals, sForL, noEx, eqK, neK, eqT, neT, ltT, wRng3, kD]
      rw [List.length_map]
      have hh := hd.head
      have ok := r.at_ok i
      have o1 := ok.lo; have o2 := ok.le; have o3 := ok.hi
      simp only [List.length_cons] at hi
      refine ⟨(Cmp.int _).ok, (Cmp.int _).ok, ((r.at i), z, D.eqv (.int (i : Int)) (.int ((told.length : Int) - 1))), rfl, rfl, trivial, fun d hd => ?_⟩
      subst hd
      have hb : D.eqv (.int (i : Int)) (.int ((told.length : Int) - 1)) = decide (zs = []) := by
        rw [show D.eqv (.int (i : Int)) (.int ((told.length : Int) - 1)) = decide ((i : Int) = told.length - 1) by simp [D.eqv, D.pd, PyData.eqv, Bool.beq_eq_decide_eq]]
        apply decide_eq_decide.mpr
        constructor
        · intro e; exact List.length_eq_zero_iff.mp (by omega)
        · intro e; rw [e] at hi; simp only [List.length_nil] at hi; omega
      have yes : decide ((if D.eqv (.int (i : Int)) (.int ((told.length : Int) - 1)) = true then 1 else (r.at i).1 - (r.at i).2) ≤ z ∧ z < (r.at i).1) = true := by
        apply decide_eq_true
        rw [hb]
        have h1 := hh.1
        refine ⟨?_, hh.2.1⟩
        by_cases ez : zs = []
        · rw [if_pos ez] at h1; simp only [ez, decide_true, if_true]; exact h1
        · rw [if_neg ez] at h1; simp only [ez, decide_false, if_neg (show ¬ false = true by decide)]; exact h1
      have z0 : 0 ≤ z := by have h1 := hh.1; split at h1 <;> omega
      dsimp only [sSeq, sIf, sSet, sSetO, sRet, sRetO, sNext, sExpr, wTest, w1, w2, wVar, valOf, Env.at, Env.put, wOD, wLst, wTup, waNil, waCons, waStar, wC, wCall, wCallB, wIf, DL.wTru, truD, wAnd, wOr, DL.wNot, wAndV, wOrV, wNotV, List.map, List.length, List.replicate, List.replicate_succ, List.replicate_zero, DL.putK, OD.toD, o2I, o2I0, addD, mulD, ixD, lenL, lenD, intL, absL, maxL, minL, divmodL, tupleL, blOf, intOf, lstD, tupD, seqOf, outOf, List.tail, Nat.reduceAdd, Nat.reduceSub, wrNil, wrV, wrO, wCallR, wCallRO, takeA, takeK, backA, isOwn, Sl.asD, Sl.asO, spK, noInsO, sAugIx, modL, wIxB, lstOf, wTruB, bor, sExtO, wRep, wSl, wSlB, wCat, wListOf, wpNone, wpSome, DL.isScal, sFor, wRng1, wRng2, gN, gTupD, gConsD, gNilD, sAsg, sPar, parK, wnNil, wnV, wnO, sRetN, ownL, wIsi, isiL, isiD, eqD, neD, wComp, sAug, wGet, isC, wFld, fldD, wMeth, insD, madeK, wrDef, wMut, sRetB, List.nil_append, List.cons_append, DL.D.ty, seqD, gFld, modI, wEnum, wRev1, sumL, allL, anyL, sFreeze, frK, wIter, wIterT, wMake, wBm, idxL, sTry, exmD, sRaise, wEqO, wChain, wDNew, sSetK, modK, dicOf, wDGetB, wDGet, dicD, wDInB, wDGet2B, sAugK, keyD, wOfK, wOfKB, fCopy, fKeys, fSorted, wSortL, wDc, wKeys, wItems, wVals, sForL, noEx, eqK, neK, eqT, neT, ltT, wRng3, kD, N_day_of, pairD]
      rw [yes]
      refine ⟨fun h => by (cases h), fun _ => ?_⟩
      refine ⟨mulOk_big (a := 4) (b := 4 * i + 1) (by omega) (by have h4 := sizeR_lt r i; have h5 := sizeR_pos r i; exact_mod_cast (show ((sizeR r i).natAbs : Int) < 2 ^ (4 * i + 1) by omega)) (by omega), .int (r.at i).2, rfl, .inr ⟨by omega, by omega⟩, ?_⟩
      refine hP _ ⟨i + 1, zs, _, _, _, _, rfl, rfl, trivial, trivial, trivial, hh.2.2, by omega, ?_⟩
      rw [← hsum, sumW]; omega
  · obtain ⟨i, zs, acc, s1, s2, s3, e, rfl, hs1, hs2, hs3, hd, hi, hsum⟩ := hI
    cases zs with
    | cons z zs => cases e
    | nil =>
      dsimp only [sSeq, sIf, sSet, sSetO, sRet, sRetO, sNext, sExpr, wTest, w1, w2, wVar, valOf, Env.at, Env.put, wOD, wLst, wTup, waNil, waCons, waStar, wC, wCall, wCallB, wIf, DL.wTru, truD, wAnd, wOr, DL.wNot, wAndV, wOrV, wNotV, List.map, List.length, List.replicate, List.replicate_succ, List.replicate_zero, DL.putK, OD.toD, o2I, o2I0, addD, mulD, ixD, lenL, lenD, intL, absL, maxL, minL, divmodL, tupleL, blOf, intOf, lstD, tupD, seqOf, outOf, List.tail, Nat.reduceAdd, Nat.reduceSub, wrNil, wrV, wrO, wCallR, wCallRO, takeA, takeK, backA, isOwn, Sl.asD, Sl.asO, spK, noInsO, sAugIx, modL, wIxB, lstOf, wTruB, bor, sExtO, wRep, wSl, wSlB, wCat, wListOf, wpNone, wpSome, DL.isScal, sFor, wRng1, wRng2, gN, gTupD, gConsD, gNilD, sAsg, sPar, parK, wnNil, wnV, wnO, sRetN, ownL, wIsi, isiL, isiD, eqD, neD, wComp, sAug, wGet, isC, wFld, fldD, wMeth, insD, madeK, wrDef, wMut, sRetB, List.nil_append, List.cons_append, DL.D.ty, seqD, gFld, modI, wEnum, wRev1, sumL, allL, anyL, sFreeze, frK, wIter, wIterT, wMake, wBm, idxL, sTry, exmD, sRaise, wEqO, wChain, wDNew, sSetK, modK, dicOf, wDGetB, wDGet, dicD, wDInB, wDGet2B, sAugK, keyD, wOfK, wOfKB, fCopy, fKeys, fSorted, wSortL, wDc, wKeys, wItems, wVals, sForL, noEx, eqK, neK, eqT, neT, ltT, wRng3, kD, N_day_of]
      rw [sumW] at hsum
      exact ⟨trivial, k _ (by rw [← hsum]; simp)⟩

theorem cal_day_of {f : Addr} {fd : FuncData} (F : Fun K "day_of" "day_of" s_day_of f fd) (hm : mg "day_of" = some (.ref f)) (B : Bl K mg C A_Weights) (R_Rule : RuleS K mg C) (R_Weights : WeightsS K mg A_Weights) (E_SiltError : ErrS K mg "SiltError" X_SiltError) (E_BadDay : ErrS K mg "BadDay" X_BadDay) (E_BadWeights : ErrS K mg "BadWeights" X_BadWeights) (C_Rule___getitem__ : CalG P w K mg base C 2 P_Rule___getitem__ (sp_Rule___getitem__ C)) (C_need_rule : Cal P w K mg base 1 "need_rule" P_need_rule (sp_need_rule C)) (C_is_digit : Cal P w K mg base 3 "is_digit" P_is_digit sp_is_digit) : Cal P w K mg base 6 "day_of" P_day_of (sp_day_of C) :=
  ⟨⟨f, fd, ok_day_of F B R_Rule R_Weights E_SiltError E_BadDay E_BadWeights C_Rule___getitem__ C_need_rule C_is_digit, hm, F.kp, F.binds (ps := P_day_of) fun _ _ _ _ _ _ us hl => match us, hl with | [_, _], _ => rfl⟩, mono_spF⟩

def sp_count (C : Addr) : SpD := spF 2 (fun (a : Ru × Int) => [ruleD C a.1, .int a.2]) (fun a => 0 ≤ a.2 ∧ a.2 < 2 ^ 1000) (fun a d => d = .int (digsR a.1 0 a.2).sum)

abbrev s_count : Stmt := top 35
def N_count : List Str := ["rule", "day"]
def P_count : List Str := ["rule", "day"]
theorem sc_count : FnScope N_count P_count (defScope s_count) := ⟨rfl, rfl, rfl, by decide +kernel, rfl, by decide +kernel, by decide +kernel⟩
theorem ok_count {f : Addr} {fd : FuncData} (F : Fun K "count" "count" s_count f fd) (B : Bl K mg C A_Weights) (R_Rule : RuleS K mg C) (R_Weights : WeightsS K mg A_Weights) (E_SiltError : ErrS K mg "SiltError" X_SiltError) (E_BadDay : ErrS K mg "BadDay" X_BadDay) (E_BadWeights : ErrS K mg "BadWeights" X_BadWeights) (C_digits : Cal P w K mg base 6 "digits" P_digits (sp_digits C)) : FnOk P w K mg base (L2.CX P w) 7 f fd P_count (spOf K (sp_count C)) := by
  refine fn_ok F sc_count len_spF (io := []) io_spF (fun cdv A outer sh H E hr =>
 (db_one (ds_ret (de_callB (cr_sum rfl) sum_s (by rfl) B.sum (by rfl) (da_cons (do_c C_digits (hr.mono (by decide)) (by rfl) (takes_of rfl rfl rfl rfl) (dr_v (de_var 0 (pv 0)) (dr_v (de_var 1 (pv 1)) dr_nil))).de da_nil))))) ?_

  rintro ins Q R ⟨⟨r, n⟩, rfl, l, ⟨h1, h2⟩, k⟩
  dsimp only [sSeq, sIf, sSet, sSetO, sRet, sRetO, sNext, sExpr, wTest, w1, w2, wVar, valOf, Env.at, Env.put, wOD, wLst, wTup, waNil, waCons, waStar, wC, wCall, wCallB, wIf, DL.wTru, truD, wAnd, wOr, DL.wNot, wAndV, wOrV, wNotV, List.map, List.length, List.replicate, List.replicate_succ, List.replicate_zero, DL.putK, OD.toD, o2I, o2I0, addD, mulD, ixD, lenL, lenD, intL, absL, maxL, minL, divmodL, tupleL, blOf, intOf, lstD, tupD, seqOf, outOf, List.tail, Nat.reduceAdd, Nat.reduceSub, wrNil, wrV, wrO, wCallR, wCallRO, takeA, takeK, backA, isOwn, Sl.asD, Sl.asO, spK, noInsO, sAugIx, modL, wIxB, lstOf, wTruB, bor, sExtO, wRep, wSl, wSlB, wCat, wListOf, wpNone, wpSome, DL.isScal, sFor, wRng1, wRng2, gN, gTupD, gConsD, gNilD, sAsg, sPar, parK, wnNil, wnV, wnO, sRetN, ownL, wIsi, isiL, isiD, eqD, neD, wComp, sAug, wGet, isC, wFld, fldD, wMeth, insD, madeK, wrDef, wMut, sRetB, List.nil_append, List.cons_append, DL.D.ty, seqD, gFld, modI, wEnum, wRev1, sumL, allL, anyL, sFreeze, frK, wIter, wIterT, wMake, wBm, idxL, sTry, exmD, sRaise, wEqO, wChain, wDNew, sSetK, modK, dicOf, wDGetB, wDGet, dicD, wDInB, wDGet2B, sAugK, keyD, wOfK, wOfKB, fCopy, fKeys, fSorted, wSortL, wDc, wKeys, wItems, wVals, sForL, noEx, eqK, neK, eqT, neT, ltT, wRng3, kD, N_count] at h1 h2 k ⊢
  refine ⟨(r, n), rfl, rfl, ⟨h1, h2⟩, fun xs hd => ?_⟩
  subst hd
  exact ⟨trivial, _, rfl, trivial, k _ rfl⟩

theorem cal_count {f : Addr} {fd : FuncData} (F : Fun K "count" "count" s_count f fd) (hm : mg "count" = some (.ref f)) (B : Bl K mg C A_Weights) (R_Rule : RuleS K mg C) (R_Weights : WeightsS K mg A_Weights) (E_SiltError : ErrS K mg "SiltError" X_SiltError) (E_BadDay : ErrS K mg "BadDay" X_BadDay) (E_BadWeights : ErrS K mg "BadWeights" X_BadWeights) (C_digits : Cal P w K mg base 6 "digits" P_digits (sp_digits C)) : Cal P w K mg base 7 "count" P_count (sp_count C) :=
  ⟨⟨f, fd, ok_count F B R_Rule R_Weights E_SiltError E_BadDay E_BadWeights C_digits, hm, F.kp, F.binds (ps := P_count) fun _ _ _ _ _ _ us hl => match us, hl with | [_, _], _ => rfl⟩, mono_spF⟩

/-- the digits of the first day with so many layers, from the grade g on -/
def firstL (r : Ru) (g : Nat) (n : Int) : List Int :=
  if h : n ≤ 0 then [] else min n ((r.at g).1 - 1) :: firstL r (g + 1) (n - min n ((r.at g).1 - 1))
termination_by n.toNat
decreasing_by
  have h1 := (r.at_ok g).lo; have h2 := (r.at_ok g).le
  omega
theorem firstL_zero (r : Ru) (g : Nat) {n : Int} (h : n ≤ 0) : firstL r g n = [] := by
  rw [firstL, dif_pos h]
theorem firstL_pos (r : Ru) (g : Nat) {n : Int} (h : 0 < n) : firstL r g n = min n ((r.at g).1 - 1) :: firstL r (g + 1) (n - min n ((r.at g).1 - 1)) := by
  rw [firstL, dif_neg (by omega)]
theorem firstL_ok (r : Ru) : ∀ (k g : Nat) (n : Int), n ≤ k → DigOk r g (firstL r g n)
  | 0, g, n, h => by rw [firstL_zero r g (by omega)]; trivial
  | k + 1, g, n, h => by
    by_cases z : n ≤ 0
    · rw [firstL_zero r g z]; trivial
    · have h1 := (r.at_ok g).lo; have h2 := (r.at_ok g).le
      rw [firstL_pos r g (by omega)]
      have ih := firstL_ok r k (g + 1) (n - min n ((r.at g).1 - 1)) (by omega)
      by_cases z2 : n - min n ((r.at g).1 - 1) ≤ 0
      · rw [firstL_zero r _ z2]
        exact ⟨by omega, by omega⟩
      · rw [firstL_pos r _ (by omega)] at ih ⊢
        exact ⟨by omega, by omega, ih⟩
theorem firstL_len (r : Ru) : ∀ (k g : Nat) (n : Int), n ≤ k → (firstL r g n).length ≤ k
  | 0, g, n, h => by rw [firstL_zero r g (by omega)]; exact Nat.le_refl _
  | k + 1, g, n, h => by
    by_cases z : n ≤ 0
    · rw [firstL_zero r g z]; exact Nat.zero_le _
    · have h1 := (r.at_ok g).lo; have h2 := (r.at_ok g).le
      rw [firstL_pos r g (by omega)]
      exact Nat.succ_le_succ (firstL_len r k (g + 1) _ (by omega))
def firstR (r : Ru) (n : Int) : Int := sumW r 0 (firstL r 0 n)


def sp_first_with (C : Addr) : SpD := spF 2 (fun (a : Ru × Int) => [ruleD C a.1, .int a.2]) (fun a => 0 ≤ a.2 ∧ a.2 < 100000) (fun a d => d = .int (firstR a.1 a.2))

abbrev s_first_with : Stmt := top 36
def N_first_with : List Str := ["rule", "many", "told", "left", "digit"]
def P_first_with : List Str := ["rule", "many"]
theorem sc_first_with : FnScope N_first_with P_first_with (defScope s_first_with) := ⟨rfl, rfl, rfl, by decide +kernel, rfl, by decide +kernel, by decide +kernel⟩
theorem ok_first_with {f : Addr} {fd : FuncData} (F : Fun K "first_with" "first_with" s_first_with f fd) (B : Bl K mg C A_Weights) (R_Rule : RuleS K mg C) (R_Weights : WeightsS K mg A_Weights) (E_SiltError : ErrS K mg "SiltError" X_SiltError) (E_BadDay : ErrS K mg "BadDay" X_BadDay) (E_BadWeights : ErrS K mg "BadWeights" X_BadWeights) (C_Rule___getitem__ : CalG P w K mg base C 2 P_Rule___getitem__ (sp_Rule___getitem__ C)) (C_need_rule : Cal P w K mg base 1 "need_rule" P_need_rule (sp_need_rule C)) (C_need_number : CalD P w K mg base 2 "need_number" P_need_number sp_need_number [.int 0]) (C_greatest_digit : Cal P w K mg base 1 "greatest_digit" P_greatest_digit sp_greatest_digit) (C_day_of : Cal P w K mg base 6 "day_of" P_day_of (sp_day_of C)) : FnOk P w K mg base (L2.CX P w) 8 f fd P_first_with (spOf K (sp_first_with C)) := by
  refine fn_ok F sc_first_with len_spF (io := []) io_spF (fun cdv A outer sh H E hr =>
 (db_cons (ds_expr (de_c C_need_rule (hr.mono (by decide)) (by rfl) (takes_of rfl rfl rfl rfl) (dr_v (de_var 0 (pv 0)) dr_nil)))
 (db_cons (ds_expr (de_cd C_need_number (hr.mono (by decide)) (by rfl) (takes_of rfl rfl rfl rfl) (dr_v (de_var 1 (pv 1)) dr_nil)))
 (db_cons (ds_par (i := 2) (j := 3) rfl sc_first_with.nd (by rfl) (by rfl) (by decide) (show (_ : Nat) ∉ ([] : List Nat) by decide) (show (_ : Nat) ∉ ([] : List Nat) by decide) (by rfl) (by rfl) (dn_o (do_lst da_nil) (dn_v (de_var 1 (pv 1)) dn_nil)))
 (db_cons (ds_while (passes_of rfl) (dt_tru (de_var 3 (pv 3)) (fun _ => rfl)) (db_cons (ds_set (i := 4) (show (_ : Nat) ∉ ([] : List Nat) by decide) sc_first_with.nd (by rfl) (.inl rfl) (de_callB (call_min2 rfl) min_s (by rfl) B.min (by rfl) (da_cons (de_var 3 (pv 3)) (da_cons (de_c C_greatest_digit (hr.mono (by decide)) (by rfl) (takes_of rfl rfl rfl rfl) (dr_v (de_g C_Rule___getitem__ (de_var 0 (pv 0)) (de_callBB 2 call_len len_s (by rfl) B.len (by rfl) (pv 2)) (hr.mono (by decide)) (takes_of rfl rfl rfl rfl)) dr_nil)) da_nil))))
 (db_cons (ds_expr (de_append 2 (pv 2) (de_var 4 (pv 4))))
 (db_one (ds_aug (i := 3) (show (_ : Nat) ∉ ([] : List Nat) by decide) sc_first_with.nd (by rfl) (.inl rfl) iop_sub isub_s (de_var 4 (pv 4)))))))
 (db_one (ds_freeze 2 (show (_ : Nat) ∉ ([] : List Nat) by decide) (ds_ret (de_c C_day_of (hr.mono (by decide)) (by rfl) (takes_of rfl rfl rfl rfl) (dr_v (de_var 0 (pv 0)) (dr_v (de_var 2 (pv 2)) dr_nil))))))))))) ?_

  rintro ins Q R ⟨⟨r, n⟩, rfl, l, ⟨h1, h2⟩, k⟩
  dsimp only [sSeq, sIf, sSet, sSetO, sRet, sRetO, sNext, sExpr, wTest, w1, w2, wVar, valOf, Env.at, Env.put, wOD, wLst, wTup, waNil, waCons, waStar, wC, wCall, wCallB, wIf, DL.wTru, truD, wAnd, wOr, DL.wNot, wAndV, wOrV, wNotV, List.map, List.length, List.replicate, List.replicate_succ, List.replicate_zero, DL.putK, OD.toD, o2I, o2I0, addD, mulD, ixD, lenL, lenD, intL, absL, maxL, minL, divmodL, tupleL, blOf, intOf, lstD, tupD, seqOf, outOf, List.tail, Nat.reduceAdd, Nat.reduceSub, wrNil, wrV, wrO, wCallR, wCallRO, takeA, takeK, backA, isOwn, Sl.asD, Sl.asO, spK, noInsO, sAugIx, modL, wIxB, lstOf, wTruB, bor, sExtO, wRep, wSl, wSlB, wCat, wListOf, wpNone, wpSome, DL.isScal, sFor, wRng1, wRng2, gN, gTupD, gConsD, gNilD, sAsg, sPar, parK, wnNil, wnV, wnO, sRetN, ownL, wIsi, isiL, isiD, eqD, neD, wComp, sAug, wGet, isC, wFld, fldD, wMeth, insD, madeK, wrDef, wMut, sRetB, List.nil_append, List.cons_append, DL.D.ty, seqD, gFld, modI, wEnum, wRev1, sumL, allL, anyL, sFreeze, frK, wIter, wIterT, wMake, wBm, idxL, sTry, exmD, sRaise, wEqO, wChain, wDNew, sSetK, modK, dicOf, wDGetB, wDGet, dicD, wDInB, wDGet2B, sAugK, keyD, wOfK, wOfKB, fCopy, fKeys, fSorted, wSortL, wDc, wKeys, wItems, wVals, sForL, noEx, eqK, neK, eqT, neT, ltT, wRng3, kD, N_first_with] at h1 h2 k ⊢
  refine ⟨r, rfl, rfl, trivial, fun d hd => ?_⟩
  subst hd
  refine ⟨(n, 0), rfl, rfl, h1, fun d hd => ?_⟩
  subst hd
  refine ⟨by decide, trivial, rfl, ?_⟩
  refine ⟨fun m ρ => ∃ (acc : List Int) (b : Int) (s : Sl), ρ = [.v (ruleD C r), .v (.int n), .own (.lst (acc.map .int)), .v (.int b), s] ∧ noIns s ∧ m = b.toNat ∧ 0 ≤ b ∧ acc.length + b ≤ n ∧ acc ++ firstL r acc.length b = firstL r 0 n,
    ⟨_, [], n, .no, rfl, trivial, rfl, h1, by simp, rfl⟩, fun m ρ hI => ?_⟩
  obtain ⟨acc, b, s, rfl, hs, rfl, b0, hb, he⟩ := hI
  dsimp only [sSeq, sIf, sSet, sSetO, sRet, sRetO, sNext, sExpr, wTest, w1, w2, wVar, valOf, Env.at, Env.put, wOD, wLst, wTup, waNil, waCons, waStar, wC, wCall, wCallB, wIf, DL.wTru, truD, wAnd, wOr, DL.wNot, wAndV, wOrV, wNotV, List.map, List.length, List.replicate, List.replicate_succ, List.replicate_zero, DL.putK, OD.toD, o2I, o2I0, addD, mulD, ixD, lenL, lenD, intL, absL, maxL, minL, divmodL, tupleL, blOf, intOf, lstD, tupD, seqOf, outOf, List.tail, Nat.reduceAdd, Nat.reduceSub, wrNil, wrV, wrO, wCallR, wCallRO, takeA, takeK, backA, isOwn, Sl.asD, Sl.asO, spK, noInsO, sAugIx, modL, wIxB, lstOf, wTruB, bor, sExtO, wRep, wSl, wSlB, wCat, wListOf, wpNone, wpSome, DL.isScal, sFor, wRng1, wRng2, gN, gTupD, gConsD, gNilD, sAsg, sPar, parK, wnNil, wnV, wnO, sRetN, ownL, wIsi, isiL, isiD, eqD, neD, wComp, sAug, wGet, isC, wFld, fldD, wMeth, insD, madeK, wrDef, wMut, sRetB, List.nil_append, List.cons_append, DL.D.ty, seqD, gFld, modI, wEnum, wRev1, sumL, allL, anyL, sFreeze, frK, wIter, wIterT, wMake, wBm, idxL, sTry, exmD, sRaise, wEqO, wChain, wDNew, sSetK, modK, dicOf, wDGetB, wDGet, dicD, wDInB, wDGet2B, sAugK, keyD, wOfK, wOfKB, fCopy, fKeys, fSorted, wSortL, wDc, wKeys, wItems, wVals, sForL, noEx, eqK, neK, eqT, neT, ltT, wRng3, kD, N_first_with]
  rw [List.length_map]
  refine ⟨fun h => ?_, fun h => ?_⟩
  · have hp : 0 < b := by
      have : b ≠ 0 := by simpa using h
      omega
    have ok := r.at_ok acc.length
    have o1 := ok.lo; have o2 := ok.le; have o3 := ok.hi
    refine ⟨rfl, rfl, (r, acc.length), rfl, rfl, trivial, fun d hd => ?_⟩
    subst hd
    refine ⟨r.at acc.length, rfl, rfl, trivial, fun d hd => ?_⟩
    subst hd
    refine putK_intro (by simp) hs ?_
    dsimp only [sSeq, sIf, sSet, sSetO, sRet, sRetO, sNext, sExpr, wTest, w1, w2, wVar, valOf, Env.at, Env.put, wOD, wLst, wTup, waNil, waCons, waStar, wC, wCall, wCallB, wIf, DL.wTru, truD, wAnd, wOr, DL.wNot, wAndV, wOrV, wNotV, List.map, List.length, List.replicate, List.replicate_succ, List.replicate_zero, DL.putK, OD.toD, o2I, o2I0, addD, mulD, ixD, lenL, lenD, intL, absL, maxL, minL, divmodL, tupleL, blOf, intOf, lstD, tupD, seqOf, outOf, List.tail, Nat.reduceAdd, Nat.reduceSub, wrNil, wrV, wrO, wCallR, wCallRO, takeA, takeK, backA, isOwn, Sl.asD, Sl.asO, spK, noInsO, sAugIx, modL, wIxB, lstOf, wTruB, bor, sExtO, wRep, wSl, wSlB, wCat, wListOf, wpNone, wpSome, DL.isScal, sFor, wRng1, wRng2, gN, gTupD, gConsD, gNilD, sAsg, sPar, parK, wnNil, wnV, wnO, sRetN, ownL, wIsi, isiL, isiD, eqD, neD, wComp, sAug, wGet, isC, wFld, fldD, wMeth, insD, madeK, wrDef, wMut, sRetB, List.nil_append, List.cons_append, DL.D.ty, seqD, gFld, modI, wEnum, wRev1, sumL, allL, anyL, sFreeze, frK, wIter, wIterT, wMake, wBm, idxL, sTry, exmD, sRaise, wEqO, wChain, wDNew, sSetK, modK, dicOf, wDGetB, wDGet, dicD, wDInB, wDGet2B, sAugK, keyD, wOfK, wOfKB, fCopy, fKeys, fSorted, wSortL, wDc, wKeys, wItems, wVals, sForL, noEx, eqK, neK, eqT, neT, ltT, wRng3, kD, N_first_with]
    refine ⟨trivial, _, rfl, by rw [List.length_map]; show acc.length < 16777216; omega, (b - min b ((r.at acc.length).1 - 1)).toNat, by omega, acc ++ [min b ((r.at acc.length).1 - 1)], b - min b ((r.at acc.length).1 - 1), .v (.int (min b ((r.at acc.length).1 - 1))), by simp, trivial, rfl, by omega, by simp; omega, ?_⟩
    rw [← he, firstL_pos r _ hp, List.length_append, List.append_assoc]; rfl
  · have hz : b = 0 := by simpa using h
    subst hz
    rw [firstL_zero r _ (Int.le_refl 0), List.append_nil] at he
    subst he
    refine ⟨(r, firstL r 0 n), rfl, rfl, ⟨firstL_ok r _ _ _ (show n ≤ n.toNat by omega), ?_⟩, fun d hd => ?_⟩
    · have := firstL_len r n.toNat 0 n (by omega)
      dsimp only; omega
    · subst hd
      exact ⟨trivial, k _ rfl⟩

theorem cal_first_with {f : Addr} {fd : FuncData} (F : Fun K "first_with" "first_with" s_first_with f fd) (hm : mg "first_with" = some (.ref f)) (B : Bl K mg C A_Weights) (R_Rule : RuleS K mg C) (R_Weights : WeightsS K mg A_Weights) (E_SiltError : ErrS K mg "SiltError" X_SiltError) (E_BadDay : ErrS K mg "BadDay" X_BadDay) (E_BadWeights : ErrS K mg "BadWeights" X_BadWeights) (C_Rule___getitem__ : CalG P w K mg base C 2 P_Rule___getitem__ (sp_Rule___getitem__ C)) (C_need_rule : Cal P w K mg base 1 "need_rule" P_need_rule (sp_need_rule C)) (C_need_number : CalD P w K mg base 2 "need_number" P_need_number sp_need_number [.int 0]) (C_greatest_digit : Cal P w K mg base 1 "greatest_digit" P_greatest_digit sp_greatest_digit) (C_day_of : Cal P w K mg base 6 "day_of" P_day_of (sp_day_of C)) : Cal P w K mg base 8 "first_with" P_first_with (sp_first_with C) :=
  ⟨⟨f, fd, ok_first_with F B R_Rule R_Weights E_SiltError E_BadDay E_BadWeights C_Rule___getitem__ C_need_rule C_need_number C_greatest_digit C_day_of, hm, F.kp, F.binds (ps := P_first_with) fun _ _ _ _ _ _ us hl => match us, hl with | [_, _], _ => rfl⟩, mono_spF⟩
end L53
set_option Elab.async false
set_option linter.all false
set_option maxRecDepth 100000
set_option maxHeartbeats 0
namespace L53
open PySem L2 DL
variable {P : Program} {w : World} {K : PySem.W.Frag} {mg : Str → Option Value} {base : Heap} {C A_Weights X_SiltError X_BadDay X_BadWeights : Addr}

/-- one statement at a time: what is behind it stays folded -/
theorem seq_intro {a b : WS} {ρ : DL.Env} {k : KS} (h : ∀ N : DL.Env → Prop, (∀ ρ', b ρ' k → N ρ') → a ρ { k with nx := N }) : sSeq a b ρ k := h _ fun _ x => x


/-- what layers are worth, in layers of the grade g -/
def valR (r : Ru) : Nat → List Int → Int
  | _, [] => 0
  | g, d :: ds => d + (r.at g).2 * valR r (g + 1) ds
theorem valR_digs (r : Ru) : ∀ (k g : Nat) (n : Int), 0 ≤ n → n ≤ k → valR r g (digsF r k g n) = n
  | 0, g, n, h, h' => by
    have : n = 0 := by omega
    subst this; rfl
  | k + 1, g, n, h, h' => by
    unfold digsF
    by_cases z : n ≤ 0
    · rw [if_pos z, valR]; omega
    · rw [if_neg z, valR]
      have := bakesR_lt (r.at_ok g) (n := n) (by omega)
      rw [valR_digs r k (g + 1) _ (bakesR_nn _ _) (by omega), Int.mul_comm]
      omega
theorem sumW_val (r : Ru) : ∀ (ds : List Int) (g : Nat), sumW r g ds = sizeR r g * valR r g ds
  | [], g => by rw [sumW, valR, Int.mul_zero]
  | d :: ds, g => by
    rw [sumW, valR, sumW_val r ds (g + 1)]
    show d * sizeR r g + sizeR r g * (r.at g).2 * _ = _
    rw [Int.mul_add, Int.mul_comm d, Int.mul_assoc]
/-- the digits of a day times the sizes are the day -/
theorem sumW_digs (r : Ru) {n : Int} (h : 0 ≤ n) : sumW r 0 (digsR r 0 n) = n := by
  rw [sumW_val]
  show 1 * _ = n
  rw [Int.one_mul]
  exact valR_digs r _ 0 n h (by omega)
theorem sumW_append (r : Ru) : ∀ (ds es : List Int) (g : Nat), sumW r g (ds ++ es) = sumW r g ds + sumW r (g + ds.length) es
  | [], es, g => by rw [List.nil_append, sumW, List.length_nil, Nat.add_zero]; omega
  | d :: ds, es, g => by
    rw [List.cons_append, sumW, sumW, sumW_append r ds es (g + 1), List.length_cons, show g + 1 + ds.length = g + (ds.length + 1) by omega]
    omega
theorem sumW_take (r : Ru) (ds : List Int) {m : Nat} (h : m < ds.length) : sumW r 0 (ds.take (m + 1)) = sumW r 0 (ds.take m) + ds[m] * sizeR r m := by
  rw [← List.take_append_getElem h, sumW_append, List.length_take, sumW, sumW, show 0 + min m ds.length = m by omega]
  omega
theorem size_natAbs (r : Ru) (g : Nat) : (sizeR r g).natAbs < 2 ^ (4 * g + 1) := by
  have h4 := sizeR_lt r g; have h5 := sizeR_pos r g
  exact_mod_cast (show ((sizeR r g).natAbs : Int) < 2 ^ (4 * g + 1) by omega)
theorem divOk_size (r : Ru) {g : Nat} (h : g ≤ 2000) : DivOk (sizeR r g) := by
  have h5 := sizeR_pos r g
  refine ⟨h5, ?_⟩
  have := (Nat.log2_lt (show (sizeR r g).natAbs ≠ 0 by omega)).mpr (size_natAbs r g)
  omega
theorem natAbs_lt {n : Int} {k : Nat} (h0 : 0 ≤ n) (h : n < 2 ^ k) : n.natAbs < 2 ^ k := by
  exact_mod_cast (show (n.natAbs : Int) < 2 ^ k by omega)
/-- the layer in which the day behind so many others lies, looked for from the grade below m on: its grade, its number -/
def placeF (r : Ru) (ds : List Int) : Nat → Int → Int → Option (Nat × Int)
  | 0, _, _ => none
  | g + 1, b, num => if ds.getD g 0 * sizeR r g ≤ b then placeF r ds g (b - ds.getD g 0 * sizeR r g) (num + ds.getD g 0) else some (g, num + b / sizeR r g)
theorem placeF_some (r : Ru) (ds : List Int) : ∀ (m : Nat) (b num : Int), m ≤ ds.length → 0 ≤ b → b < sumW r 0 (ds.take m) → ∃ x, placeF r ds m b num = some x
  | 0, b, num, hm, h0, h => by rw [List.take_zero, sumW] at h; omega
  | m + 1, b, num, hm, h0, h => by
    rw [placeF]
    have e : ds.getD m 0 = ds[m] := by rw [List.getD_eq_getElem?_getD, List.getElem?_eq_getElem (by omega)]; rfl
    by_cases z : ds.getD m 0 * sizeR r m ≤ b
    · rw [if_pos z]
      refine placeF_some r ds m _ _ (by omega) (by omega) ?_
      rw [sumW_take r ds (by omega)] at h
      rw [e] at z ⊢
      omega
    · rw [if_neg z]; exact ⟨_, rfl⟩
def placeR (r : Ru) (day now : Int) : Nat × Int := (placeF r (digsR r 0 now) (digsR r 0 now).length (day - 1) 0).getD (0, 0)
theorem digs_ne (r : Ru) (g : Nat) {n : Int} (h : 0 < n) : digsR r g n ≠ [] := by
  rw [digsR_pos r g h]; simp


def sp_place (C : Addr) : SpD := spF 3 (fun (a : Ru × Int × Int) => [ruleD C a.1, .int a.2.1, .int a.2.2]) (fun a => 1 ≤ a.2.1 ∧ a.2.1 ≤ a.2.2 ∧ a.2.2 < 2 ^ 1000) (fun a d => d = .tup [.int (placeR a.1 a.2.1 a.2.2).1, .int (placeR a.1 a.2.1 a.2.2).2])

abbrev s_place : Stmt := top 38
def N_place : List Str := ["rule", "day", "now", "told", "grade", "number", "below", "days"]
def P_place : List Str := ["rule", "day", "now"]
theorem sc_place : FnScope N_place P_place (defScope s_place) := ⟨rfl, rfl, rfl, by decide +kernel, rfl, by decide +kernel, by decide +kernel⟩
theorem ok_place {f : Addr} {fd : FuncData} (F : Fun K "place" "place" s_place f fd) (B : Bl K mg C A_Weights) (R_Rule : RuleS K mg C) (R_Weights : WeightsS K mg A_Weights) (E_SiltError : ErrS K mg "SiltError" X_SiltError) (E_BadDay : ErrS K mg "BadDay" X_BadDay) (E_BadWeights : ErrS K mg "BadWeights" X_BadWeights) (C_Rule___getitem__ : CalG P w K mg base C 2 P_Rule___getitem__ (sp_Rule___getitem__ C)) (C_need_rule : Cal P w K mg base 1 "need_rule" P_need_rule (sp_need_rule C)) (C_need_number : CalD P w K mg base 2 "need_number" P_need_number sp_need_number [.int 0]) (C_digits : Cal P w K mg base 6 "digits" P_digits (sp_digits C)) (C_Rule_size : CalM P w K mg base C 4 "size" P_Rule_size (sp_Rule_size C)) : FnOk P w K mg base (L2.CX P w) 8 f fd P_place (spOf K (sp_place C)) := by
  refine fn_ok F sc_place len_spF (io := []) io_spF (fun cdv A outer sh H E hr =>
 (db_cons (ds_expr (de_c C_need_rule (hr.mono (by decide)) (by rfl) (takes_of rfl rfl rfl rfl) (dr_v (de_var 0 (pv 0)) dr_nil)))
 (db_cons (ds_expr (de_c C_need_number.cal (hr.mono (by decide)) (by rfl) (takes_of rfl rfl rfl rfl) (dr_v (de_var 1 (pv 1)) (dr_v de_int dr_nil))))
 (db_cons (ds_expr (de_cd C_need_number (hr.mono (by decide)) (by rfl) (takes_of rfl rfl rfl rfl) (dr_v (de_var 2 (pv 2)) dr_nil)))
 (db_cons (ds_if (dt_cmp op_gt (ops_I0 fun _ _ _ => .bl _) (de_var 1 (pv 1)) (de_var 2 (pv 2)) (nomark _)) (db_one (ds_raiseE rfl (takes_of rfl rfl rfl rfl) E_BadDay (by rfl))) db_nil)
 (db_cons (ds_set (i := 3) (show (_ : Nat) ∉ ([] : List Nat) by decide) sc_place.nd (by rfl) (.inl rfl) (do_c C_digits (hr.mono (by decide)) (by rfl) (takes_of rfl rfl rfl rfl) (dr_v (de_var 0 (pv 0)) (dr_v (de_var 2 (pv 2)) dr_nil))).de)
 (db_cons (ds_par3 (i := 4) (j := 5) (m := 6) rfl sc_place.nd (by rfl) (by rfl) (by rfl) (by decide) (by decide) (by decide) (show (_ : Nat) ∉ ([] : List Nat) by decide) (show (_ : Nat) ∉ ([] : List Nat) by decide) (show (_ : Nat) ∉ ([] : List Nat) by decide) (by rfl) (by rfl) (by rfl) (dn_v (de_sub (de_callB call_len len_s (by rfl) B.len (by rfl) (da_cons (de_var 3 (pv 3)) da_nil)) de_int) (dn_v de_int (dn_v (de_sub (de_var 1 (pv 1)) de_int) dn_nil))))
 (db_cons (ds_set (i := 7) (show (_ : Nat) ∉ ([] : List Nat) by decide) sc_place.nd (by rfl) (.inl rfl) (de_m C_Rule_size R_Rule.cl (de_var 0 (pv 0)) (hr.mono (by decide)) (takes_of rfl rfl rfl rfl) (dr_v (de_var 4 (pv 4)) dr_nil)))
 (db_cons (ds_while (passes_of rfl) (dt_cmp op_ge (ops_I0 fun _ _ _ => .bl _) (de_var 6 (pv 6)) (de_mul (de_ix (de_var 3 (pv 3)) (de_var 4 (pv 4)) (fun _ _ => rfl)) (de_var 7 (pv 7))) (nomark _)) (db_cons (ds_aug (i := 5) (show (_ : Nat) ∉ ([] : List Nat) by decide) sc_place.nd (by rfl) (.inl rfl) iop_add iadd_s (de_ix (de_var 3 (pv 3)) (de_var 4 (pv 4)) (fun _ _ => rfl)))
 (db_cons (ds_aug (i := 6) (show (_ : Nat) ∉ ([] : List Nat) by decide) sc_place.nd (by rfl) (.inl rfl) iop_sub isub_s (de_mul (de_ix (de_var 3 (pv 3)) (de_var 4 (pv 4)) (fun _ _ => rfl)) (de_var 7 (pv 7))))
 (db_cons (ds_aug (i := 4) (show (_ : Nat) ∉ ([] : List Nat) by decide) sc_place.nd (by rfl) (.inl rfl) iop_sub isub_s de_int)
 (db_one (ds_aug (i := 7) (show (_ : Nat) ∉ ([] : List Nat) by decide) sc_place.nd (by rfl) (.inl rfl) iop_fdivW ifdiv_s (de_ix (de_g C_Rule___getitem__ (de_var 0 (pv 0)) (de_var 4 (pv 4)) (hr.mono (by decide)) (takes_of rfl rfl rfl rfl)) de_int (fun _ _ => rfl))))))))
 (db_one (ds_ret (de_tup (da_cons (de_var 4 (pv 4)) (da_cons (de_add (de_var 5 (pv 5)) (de_fdiv (de_var 6 (pv 6)) (de_var 7 (pv 7)))) da_nil)))))))))))))) ?_

  rintro ins Q R ⟨⟨r, n, now⟩, rfl, l, ⟨h1, h2, h3⟩, k⟩
  dsimp only [sSeq, sIf, sSet, sSetO, sRet, sRetO, sNext, sExpr, wTest, w1, w2, wVar, valOf, Env.at, Env.put, wOD, wLst, wTup, waNil, waCons, waStar, wC, wCall, wCallB, wIf, DL.wTru, truD, wAnd, wOr, DL.wNot, wAndV, wOrV, wNotV, List.map, List.length, List.replicate, List.replicate_succ, List.replicate_zero, DL.putK, OD.toD, o2I, o2I0, addD, mulD, ixD, lenL, lenD, intL, absL, maxL, minL, divmodL, tupleL, blOf, intOf, lstD, tupD, seqOf, outOf, List.tail, Nat.reduceAdd, Nat.reduceSub, wrNil, wrV, wrO, wCallR, wCallRO, takeA, takeK, backA, isOwn, Sl.asD, Sl.asO, spK, noInsO, sAugIx, modL, wIxB, lstOf, wTruB, bor, sExtO, wRep, wSl, wSlB, wCat, wListOf, wpNone, wpSome, DL.isScal, sFor, wRng1, wRng2, gN, gTupD, gConsD, gNilD, sAsg, sPar, parK, wnNil, wnV, wnO, sRetN, ownL, wIsi, isiL, isiD, eqD, neD, wComp, sAug, wGet, isC, wFld, fldD, wMeth, insD, madeK, wrDef, wMut, sRetB, List.nil_append, List.cons_append, DL.D.ty, seqD, gFld, modI, wEnum, wRev1, sumL, allL, anyL, sFreeze, frK, wIter, wIterT, wMake, wBm, idxL, sTry, exmD, sRaise, wEqO, wChain, wDNew, sSetK, modK, dicOf, wDGetB, wDGet, dicD, wDInB, wDGet2B, sAugK, keyD, wOfK, wOfKB, fCopy, fKeys, fSorted, wSortL, wDc, wKeys, wItems, wVals, sForL, noEx, eqK, neK, eqT, neT, ltT, wRng3, kD, N_place] at h1 h2 h3 k ⊢
  refine ⟨r, rfl, rfl, trivial, fun d hd => ?_⟩
  subst hd
  refine ⟨(n, 1), rfl, rfl, h1, fun d hd => ?_⟩
  subst hd
  refine ⟨(now, 0), rfl, rfl, by dsimp only; omega, fun d hd => ?_⟩
  subst hd
  refine ⟨fun hc => absurd (of_decide_eq_true hc : now < n) (by omega), fun _ => ?_⟩
  refine ⟨(r, now), rfl, rfl, ⟨by dsimp only; omega, h3⟩, fun xs hd => ?_⟩
  subst hd
  unfold placeR at k
  have hlen : (digsR r 0 now).length ≤ 1000 := digs_len r _ _ _ _ (by omega) h3
  have hin : ∀ d ∈ digsR r 0 now, 0 ≤ d ∧ d < 12 := digs_in r _ _ _ (by omega)
  have hne := digs_ne r 0 (n := now) (by omega)
  have hsum := sumW_digs r (n := now) (by omega)
  generalize digsR r 0 now = ds at hlen hin hne hsum k
  obtain ⟨m, hm⟩ : ∃ m, ds.length = m + 1 := ⟨ds.length - 1, by have := List.length_pos_iff.mpr hne; omega⟩
  obtain ⟨x, hx⟩ := placeF_some r ds ds.length (n - 1) 0 (Nat.le_refl _) (by omega) (by rw [List.take_length, hsum]; omega)
  rw [hx] at k
  dsimp only [sSeq, sIf, sSet, sSetO, sRet, sRetO, sNext, sExpr, wTest, w1, w2, wVar, valOf, Env.at, Env.put, wOD, wLst, wTup, waNil, waCons, waStar, wC, wCall, wCallB, wIf, DL.wTru, truD, wAnd, wOr, DL.wNot, wAndV, wOrV, wNotV, List.map, List.length, List.replicate, List.replicate_succ, List.replicate_zero, DL.putK, OD.toD, o2I, o2I0, addD, mulD, ixD, lenL, lenD, intL, absL, maxL, minL, divmodL, tupleL, blOf, intOf, lstD, tupD, seqOf, outOf, List.tail, Nat.reduceAdd, Nat.reduceSub, wrNil, wrV, wrO, wCallR, wCallRO, takeA, takeK, backA, isOwn, Sl.asD, Sl.asO, spK, noInsO, sAugIx, modL, wIxB, lstOf, wTruB, bor, sExtO, wRep, wSl, wSlB, wCat, wListOf, wpNone, wpSome, DL.isScal, sFor, wRng1, wRng2, gN, gTupD, gConsD, gNilD, sAsg, sPar, parK, wnNil, wnV, wnO, sRetN, ownL, wIsi, isiL, isiD, eqD, neD, wComp, sAug, wGet, isC, wFld, fldD, wMeth, insD, madeK, wrDef, wMut, sRetB, List.nil_append, List.cons_append, DL.D.ty, seqD, gFld, modI, wEnum, wRev1, sumL, allL, anyL, sFreeze, frK, wIter, wIterT, wMake, wBm, idxL, sTry, exmD, sRaise, wEqO, wChain, wDNew, sSetK, modK, dicOf, wDGetB, wDGet, dicD, wDInB, wDGet2B, sAugK, keyD, wOfK, wOfKB, fCopy, fKeys, fSorted, wSortL, wDc, wKeys, wItems, wVals, sForL, noEx, eqK, neK, eqT, neT, ltT, wRng3, kD, N_place, Option.getD_some] at k ⊢
  rw [List.length_map, hm]
  refine ⟨trivial, rfl, ?_⟩
  refine ⟨⟨rfl, rfl⟩, (r, m), by simp, rfl, by dsimp only; omega, fun d hd => ?_⟩
  subst hd
  refine ⟨fun j ρ => ∃ (b num : Int), ρ = [.v (ruleD C r), .v (.int n), .v (.int now), .v (.lst (ds.map .int)), .v (.int j), .v (.int num), .v (.int b), .v (.int (sizeR r j))] ∧ j < ds.length ∧ 0 ≤ b ∧ placeF r ds (j + 1) b num = some x, ⟨m, n - 1, 0, by simp, by omega, by omega, by rw [← hm]; exact hx⟩, fun j ρ hI => ?_⟩
  obtain ⟨b, num, rfl, hj, b0, hp⟩ := hI
  dsimp only [sSeq, sIf, sSet, sSetO, sRet, sRetO, sNext, sExpr, wTest, w1, w2, wVar, valOf, Env.at, Env.put, wOD, wLst, wTup, waNil, waCons, waStar, wC, wCall, wCallB, wIf, DL.wTru, truD, wAnd, wOr, DL.wNot, wAndV, wOrV, wNotV, List.map, List.length, List.replicate, List.replicate_succ, List.replicate_zero, DL.putK, OD.toD, o2I, o2I0, addD, mulD, ixD, lenL, lenD, intL, absL, maxL, minL, divmodL, tupleL, blOf, intOf, lstD, tupD, seqOf, outOf, List.tail, Nat.reduceAdd, Nat.reduceSub, wrNil, wrV, wrO, wCallR, wCallRO, takeA, takeK, backA, isOwn, Sl.asD, Sl.asO, spK, noInsO, sAugIx, modL, wIxB, lstOf, wTruB, bor, sExtO, wRep, wSl, wSlB, wCat, wListOf, wpNone, wpSome, DL.isScal, sFor, wRng1, wRng2, gN, gTupD, gConsD, gNilD, sAsg, sPar, parK, wnNil, wnV, wnO, sRetN, ownL, wIsi, isiL, isiD, eqD, neD, wComp, sAug, wGet, isC, wFld, fldD, wMeth, insD, madeK, wrDef, wMut, sRetB, List.nil_append, List.cons_append, DL.D.ty, seqD, gFld, modI, wEnum, wRev1, sumL, allL, anyL, sFreeze, frK, wIter, wIterT, wMake, wBm, idxL, sTry, exmD, sRaise, wEqO, wChain, wDNew, sSetK, modK, dicOf, wDGetB, wDGet, dicD, wDInB, wDGet2B, sAugK, keyD, wOfK, wOfKB, fCopy, fKeys, fSorted, wSortL, wDc, wKeys, wItems, wVals, sForL, noEx, eqK, neK, eqT, neT, ltT, wRng3, kD, N_place]
  have e : ds.getD j 0 = ds[j] := by rw [List.getD_eq_getElem?_getD, List.getElem?_eq_getElem hj]; rfl
  have d0 := hin ds[j] (List.getElem_mem hj)
  have sp := sizeR_pos r j
  have mo : MulOk ds[j] (sizeR r j) := mulOk_big (a := 4) (b := 4 * j + 1) (by omega) (by have h4 := sizeR_lt r j; exact_mod_cast (show ((sizeR r j).natAbs : Int) < 2 ^ (4 * j + 1) by omega)) (by omega)
  have at1 : atI (ds.map D.int) (j : Int) = some (.int ds[j]) := by rw [atI_map, atI_nn hj]; rfl
  refine ⟨_, at1, mo, fun h => ?_, fun h => ?_⟩
  · have h : ds[j] * sizeR r j ≤ b := by simpa using h
    rw [placeF, e, if_pos h] at hp
    cases j with
    | zero => cases hp
    | succ j =>
      have ej : ((j + 1 : Nat) : Int) - 1 = j := by omega
      have ok := r.at_ok j
      have o1 := ok.lo; have o2 := ok.le; have o3 := ok.hi
      have e1 : sizeR r (j + 1) / (r.at j).2 = sizeR r j := by
        show sizeR r j * (r.at j).2 / (r.at j).2 = _
        exact Int.mul_ediv_cancel _ (by omega)
      rw [ej]
      refine ⟨_, at1, _, at1, mo, rfl, (r, j), rfl, rfl, trivial, fun d hd => ?_⟩
      subst hd
      refine ⟨.int (r.at j).2, rfl, divOk_small (by omega) (by omega), ?_⟩
      dsimp only [sSeq, sIf, sSet, sSetO, sRet, sRetO, sNext, sExpr, wTest, w1, w2, wVar, valOf, Env.at, Env.put, wOD, wLst, wTup, waNil, waCons, waStar, wC, wCall, wCallB, wIf, DL.wTru, truD, wAnd, wOr, DL.wNot, wAndV, wOrV, wNotV, List.map, List.length, List.replicate, List.replicate_succ, List.replicate_zero, DL.putK, OD.toD, o2I, o2I0, addD, mulD, ixD, lenL, lenD, intL, absL, maxL, minL, divmodL, tupleL, blOf, intOf, lstD, tupD, seqOf, outOf, List.tail, Nat.reduceAdd, Nat.reduceSub, wrNil, wrV, wrO, wCallR, wCallRO, takeA, takeK, backA, isOwn, Sl.asD, Sl.asO, spK, noInsO, sAugIx, modL, wIxB, lstOf, wTruB, bor, sExtO, wRep, wSl, wSlB, wCat, wListOf, wpNone, wpSome, DL.isScal, sFor, wRng1, wRng2, gN, gTupD, gConsD, gNilD, sAsg, sPar, parK, wnNil, wnV, wnO, sRetN, ownL, wIsi, isiL, isiD, eqD, neD, wComp, sAug, wGet, isC, wFld, fldD, wMeth, insD, madeK, wrDef, wMut, sRetB, List.nil_append, List.cons_append, DL.D.ty, seqD, gFld, modI, wEnum, wRev1, sumL, allL, anyL, sFreeze, frK, wIter, wIterT, wMake, wBm, idxL, sTry, exmD, sRaise, wEqO, wChain, wDNew, sSetK, modK, dicOf, wDGetB, wDGet, dicD, wDInB, wDGet2B, sAugK, keyD, wOfK, wOfKB, fCopy, fKeys, fSorted, wSortL, wDc, wKeys, wItems, wVals, sForL, noEx, eqK, neK, eqT, neT, ltT, wRng3, kD, N_place]
      rw [e1]
      exact ⟨j, by omega, _, _, rfl, by omega, by omega, hp⟩
  · have h : ¬ ds[j] * sizeR r j ≤ b := by simpa using h
    rw [placeF, e, if_neg h] at hp
    cases hp
    exact ⟨divOk_size r (by omega), by decide, trivial, k _ rfl⟩

theorem cal_place {f : Addr} {fd : FuncData} (F : Fun K "place" "place" s_place f fd) (hm : mg "place" = some (.ref f)) (B : Bl K mg C A_Weights) (R_Rule : RuleS K mg C) (R_Weights : WeightsS K mg A_Weights) (E_SiltError : ErrS K mg "SiltError" X_SiltError) (E_BadDay : ErrS K mg "BadDay" X_BadDay) (E_BadWeights : ErrS K mg "BadWeights" X_BadWeights) (C_Rule___getitem__ : CalG P w K mg base C 2 P_Rule___getitem__ (sp_Rule___getitem__ C)) (C_need_rule : Cal P w K mg base 1 "need_rule" P_need_rule (sp_need_rule C)) (C_need_number : CalD P w K mg base 2 "need_number" P_need_number sp_need_number [.int 0]) (C_digits : Cal P w K mg base 6 "digits" P_digits (sp_digits C)) (C_Rule_size : CalM P w K mg base C 4 "size" P_Rule_size (sp_Rule_size C)) : Cal P w K mg base 8 "place" P_place (sp_place C) :=
  ⟨⟨f, fd, ok_place F B R_Rule R_Weights E_SiltError E_BadDay E_BadWeights C_Rule___getitem__ C_need_rule C_need_number C_digits C_Rule_size, hm, F.kp, F.binds (ps := P_place) fun _ _ _ _ _ _ us hl => match us, hl with | [_, _, _], _ => rfl⟩, mono_spF⟩

/-- the work of n layers of the grade g, in layers of this grade -/
def workW (r : Ru) (g : Nat) (n : Int) : Int := if h : n ≤ 0 then 0 else (r.at g).2 * (bakesR (r.at g) n + workW r (g + 1) (bakesR (r.at g) n))
termination_by n.toNat
decreasing_by
  have := bakesR_lt (r.at_ok g) (n := n) (by omega)
  have := bakesR_nn (r.at g) n
  omega
theorem workW_zero (r : Ru) (g : Nat) {n : Int} (h : n ≤ 0) : workW r g n = 0 := by
  rw [workW, dif_pos h]
theorem workW_pos (r : Ru) (g : Nat) {n : Int} (h : 0 < n) : workW r g n = (r.at g).2 * (bakesR (r.at g) n + workW r (g + 1) (bakesR (r.at g) n)) := by
  rw [workW, dif_neg (by omega)]
theorem work_step (t S p B W : Int) : t + B * (S * p) + S * p * W = t + S * (p * (B + W)) := by
  rw [Int.mul_add p, Int.mul_add S, ← Int.mul_assoc S p B, ← Int.mul_assoc S p W, Int.mul_comm B]
  omega


def sp_work (C : Addr) : SpD := spF 2 (fun (a : Ru × Int) => [ruleD C a.1, .int a.2]) (fun a => 0 ≤ a.2 ∧ a.2 < 2 ^ 1000) (fun a d => d = .int (workW a.1 0 a.2))

abbrev s_work : Stmt := top 39
def N_work : List Str := ["rule", "day", "total", "days", "grade", "many", "pair"]
def P_work : List Str := ["rule", "day"]
theorem sc_work : FnScope N_work P_work (defScope s_work) := ⟨rfl, rfl, rfl, by decide +kernel, rfl, by decide +kernel, by decide +kernel⟩
theorem ok_work {f : Addr} {fd : FuncData} (F : Fun K "work" "work" s_work f fd) (B : Bl K mg C A_Weights) (R_Rule : RuleS K mg C) (R_Weights : WeightsS K mg A_Weights) (E_SiltError : ErrS K mg "SiltError" X_SiltError) (E_BadDay : ErrS K mg "BadDay" X_BadDay) (E_BadWeights : ErrS K mg "BadWeights" X_BadWeights) (C_Rule___getitem__ : CalG P w K mg base C 2 P_Rule___getitem__ (sp_Rule___getitem__ C)) (C_need_rule : Cal P w K mg base 1 "need_rule" P_need_rule (sp_need_rule C)) (C_need_number : CalD P w K mg base 2 "need_number" P_need_number sp_need_number [.int 0]) (C_times_baked : Cal P w K mg base 1 "times_baked" P_times_baked sp_times_baked) : FnOk P w K mg base (L2.CX P w) 6 f fd P_work (spOf K (sp_work C)) := by
  refine fn_ok F sc_work len_spF (io := []) io_spF (fun cdv A outer sh H E hr =>
 (db_cons (ds_expr (de_c C_need_rule (hr.mono (by decide)) (by rfl) (takes_of rfl rfl rfl rfl) (dr_v (de_var 0 (pv 0)) dr_nil)))
 (db_cons (ds_expr (de_cd C_need_number (hr.mono (by decide)) (by rfl) (takes_of rfl rfl rfl rfl) (dr_v (de_var 1 (pv 1)) dr_nil)))
 (db_cons (ds_asg (vs := [2, 3, 4, 5]) (de_tup (da_cons de_int (da_cons de_int (da_cons de_int (da_cons (de_var 1 (pv 1)) da_nil))))) (dg_tup (n := 4) rfl (dgs_cons (dg_name (i := 2) (show (_ : Nat) ∉ ([] : List Nat) by decide) (by decide) sc_work.nd (by rfl) (.inl rfl)) (dgs_cons (dg_name (i := 3) (show (_ : Nat) ∉ ([] : List Nat) by decide) (by decide) sc_work.nd (by rfl) (.inl rfl)) (dgs_cons (dg_name (i := 4) (show (_ : Nat) ∉ ([] : List Nat) by decide) (by decide) sc_work.nd (by rfl) (.inl rfl)) (dgs_cons (dg_name (i := 5) (show (_ : Nat) ∉ ([] : List Nat) by decide) (by decide) sc_work.nd (by rfl) (.inl rfl)) dgs_nil))))))
 (db_cons (ds_while (passes_of rfl) (dt_tru (de_var 5 (pv 5)) (fun _ => rfl)) (db_cons (ds_set (i := 6) (show (_ : Nat) ∉ ([] : List Nat) by decide) sc_work.nd (by rfl) (.inl rfl) (de_g C_Rule___getitem__ (de_var 0 (pv 0)) (de_var 4 (pv 4)) (hr.mono (by decide)) (takes_of rfl rfl rfl rfl)))
 (db_cons (ds_set (i := 5) (show (_ : Nat) ∉ ([] : List Nat) by decide) sc_work.nd (by rfl) (.inl rfl) (de_c C_times_baked (hr.mono (by decide)) (by rfl) (takes_of rfl rfl rfl rfl) (dr_v (de_var 6 (pv 6)) (dr_v (de_var 5 (pv 5)) dr_nil))))
 (db_cons (ds_aug (i := 3) (show (_ : Nat) ∉ ([] : List Nat) by decide) sc_work.nd (by rfl) (.inl rfl) iop_mul imul_s (de_ix (de_var 6 (pv 6)) de_int (fun _ _ => rfl)))
 (db_cons (ds_aug (i := 2) (show (_ : Nat) ∉ ([] : List Nat) by decide) sc_work.nd (by rfl) (.inl rfl) iop_add iadd_s (de_mul (de_var 5 (pv 5)) (de_var 3 (pv 3))))
 (db_one (ds_aug (i := 4) (show (_ : Nat) ∉ ([] : List Nat) by decide) sc_work.nd (by rfl) (.inl rfl) iop_add iadd_s de_int)))))))
 (db_one (ds_ret (de_var 2 (pv 2))))))))) ?_

  rintro ins Q R ⟨⟨r, n⟩, rfl, l, ⟨h1, h2⟩, k⟩
  dsimp only [sSeq, sIf, sSet, sSetO, sRet, sRetO, sNext, sExpr, wTest, w1, w2, wVar, valOf, Env.at, Env.put, wOD, wLst, wTup, waNil, waCons, waStar, wC, wCall, wCallB, wIf, DL.wTru, truD, wAnd, wOr, DL.wNot, wAndV, wOrV, wNotV, List.map, List.length, List.replicate, List.replicate_succ, List.replicate_zero, DL.putK, OD.toD, o2I, o2I0, addD, mulD, ixD, lenL, lenD, intL, absL, maxL, minL, divmodL, tupleL, blOf, intOf, lstD, tupD, seqOf, outOf, List.tail, Nat.reduceAdd, Nat.reduceSub, wrNil, wrV, wrO, wCallR, wCallRO, takeA, takeK, backA, isOwn, Sl.asD, Sl.asO, spK, noInsO, sAugIx, modL, wIxB, lstOf, wTruB, bor, sExtO, wRep, wSl, wSlB, wCat, wListOf, wpNone, wpSome, DL.isScal, sFor, wRng1, wRng2, gN, gTupD, gConsD, gNilD, sAsg, sPar, parK, wnNil, wnV, wnO, sRetN, ownL, wIsi, isiL, isiD, eqD, neD, wComp, sAug, wGet, isC, wFld, fldD, wMeth, insD, madeK, wrDef, wMut, sRetB, List.nil_append, List.cons_append, DL.D.ty, seqD, gFld, modI, wEnum, wRev1, sumL, allL, anyL, sFreeze, frK, wIter, wIterT, wMake, wBm, idxL, sTry, exmD, sRaise, wEqO, wChain, wDNew, sSetK, modK, dicOf, wDGetB, wDGet, dicD, wDInB, wDGet2B, sAugK, keyD, wOfK, wOfKB, fCopy, fKeys, fSorted, wSortL, wDc, wKeys, wItems, wVals, sForL, noEx, eqK, neK, eqT, neT, ltT, wRng3, kD, N_work] at h1 h2 k ⊢
  refine ⟨r, rfl, rfl, trivial, fun d hd => ?_⟩
  subst hd
  refine ⟨(n, 0), rfl, rfl, h1, fun d hd => ?_⟩
  subst hd
  refine ⟨by decide, rfl, rfl, ?_⟩
  refine ⟨fun m ρ => ∃ (g : Nat) (b tot : Int) (s : Sl), ρ = [.v (ruleD C r), .v (.int n), .v (.int tot), .v (.int (sizeR r g)), .v (.int g), .v (.int b), s] ∧ noIns s ∧ m = b.toNat ∧ 0 ≤ b ∧ b * 2 ^ g ≤ n ∧ tot + sizeR r g * workW r g b = workW r 0 n,
    ⟨_, 0, n, 0, .no, rfl, trivial, rfl, h1, by simp, ?_⟩, fun m ρ hI => ?_⟩
  · show 0 + 1 * _ = _; omega
  obtain ⟨g, b, tot, s, rfl, hs, rfl, b0, hb, he⟩ := hI
  dsimp only [sSeq, sIf, sSet, sSetO, sRet, sRetO, sNext, sExpr, wTest, w1, w2, wVar, valOf, Env.at, Env.put, wOD, wLst, wTup, waNil, waCons, waStar, wC, wCall, wCallB, wIf, DL.wTru, truD, wAnd, wOr, DL.wNot, wAndV, wOrV, wNotV, List.map, List.length, List.replicate, List.replicate_succ, List.replicate_zero, DL.putK, OD.toD, o2I, o2I0, addD, mulD, ixD, lenL, lenD, intL, absL, maxL, minL, divmodL, tupleL, blOf, intOf, lstD, tupD, seqOf, outOf, List.tail, Nat.reduceAdd, Nat.reduceSub, wrNil, wrV, wrO, wCallR, wCallRO, takeA, takeK, backA, isOwn, Sl.asD, Sl.asO, spK, noInsO, sAugIx, modL, wIxB, lstOf, wTruB, bor, sExtO, wRep, wSl, wSlB, wCat, wListOf, wpNone, wpSome, DL.isScal, sFor, wRng1, wRng2, gN, gTupD, gConsD, gNilD, sAsg, sPar, parK, wnNil, wnV, wnO, sRetN, ownL, wIsi, isiL, isiD, eqD, neD, wComp, sAug, wGet, isC, wFld, fldD, wMeth, insD, madeK, wrDef, wMut, sRetB, List.nil_append, List.cons_append, DL.D.ty, seqD, gFld, modI, wEnum, wRev1, sumL, allL, anyL, sFreeze, frK, wIter, wIterT, wMake, wBm, idxL, sTry, exmD, sRaise, wEqO, wChain, wDNew, sSetK, modK, dicOf, wDGetB, wDGet, dicD, wDInB, wDGet2B, sAugK, keyD, wOfK, wOfKB, fCopy, fKeys, fSorted, wSortL, wDc, wKeys, wItems, wVals, sForL, noEx, eqK, neK, eqT, neT, ltT, wRng3, kD, N_work]
  refine ⟨fun h => ?_, fun h => ?_⟩
  · have hp : 0 < b := by
      have : b ≠ 0 := by simpa using h
      omega
    have ok := r.at_ok g
    have o1 := ok.lo; have o2 := ok.le; have o3 := ok.hi
    refine ⟨rfl, (r, g), rfl, rfl, trivial, fun d hd => ?_⟩
    subst hd
    refine putK_intro (by simp) hs ?_
    dsimp only [sSeq, sIf, sSet, sSetO, sRet, sRetO, sNext, sExpr, wTest, w1, w2, wVar, valOf, Env.at, Env.put, wOD, wLst, wTup, waNil, waCons, waStar, wC, wCall, wCallB, wIf, DL.wTru, truD, wAnd, wOr, DL.wNot, wAndV, wOrV, wNotV, List.map, List.length, List.replicate, List.replicate_succ, List.replicate_zero, DL.putK, OD.toD, o2I, o2I0, addD, mulD, ixD, lenL, lenD, intL, absL, maxL, minL, divmodL, tupleL, blOf, intOf, lstD, tupD, seqOf, outOf, List.tail, Nat.reduceAdd, Nat.reduceSub, wrNil, wrV, wrO, wCallR, wCallRO, takeA, takeK, backA, isOwn, Sl.asD, Sl.asO, spK, noInsO, sAugIx, modL, wIxB, lstOf, wTruB, bor, sExtO, wRep, wSl, wSlB, wCat, wListOf, wpNone, wpSome, DL.isScal, sFor, wRng1, wRng2, gN, gTupD, gConsD, gNilD, sAsg, sPar, parK, wnNil, wnV, wnO, sRetN, ownL, wIsi, isiL, isiD, eqD, neD, wComp, sAug, wGet, isC, wFld, fldD, wMeth, insD, madeK, wrDef, wMut, sRetB, List.nil_append, List.cons_append, DL.D.ty, seqD, gFld, modI, wEnum, wRev1, sumL, allL, anyL, sFreeze, frK, wIter, wIterT, wMake, wBm, idxL, sTry, exmD, sRaise, wEqO, wChain, wDNew, sSetK, modK, dicOf, wDGetB, wDGet, dicD, wDInB, wDGet2B, sAugK, keyD, wOfK, wOfKB, fCopy, fKeys, fSorted, wSortL, wDc, wKeys, wItems, wVals, sForL, noEx, eqK, neK, eqT, neT, ltT, wRng3, kD, N_work]
    refine ⟨(r.at g, b), rfl, rfl, ok, fun d hd => ?_⟩
    subst hd
    dsimp only [sSeq, sIf, sSet, sSetO, sRet, sRetO, sNext, sExpr, wTest, w1, w2, wVar, valOf, Env.at, Env.put, wOD, wLst, wTup, waNil, waCons, waStar, wC, wCall, wCallB, wIf, DL.wTru, truD, wAnd, wOr, DL.wNot, wAndV, wOrV, wNotV, List.map, List.length, List.replicate, List.replicate_succ, List.replicate_zero, DL.putK, OD.toD, o2I, o2I0, addD, mulD, ixD, lenL, lenD, intL, absL, maxL, minL, divmodL, tupleL, blOf, intOf, lstD, tupD, seqOf, outOf, List.tail, Nat.reduceAdd, Nat.reduceSub, wrNil, wrV, wrO, wCallR, wCallRO, takeA, takeK, backA, isOwn, Sl.asD, Sl.asO, spK, noInsO, sAugIx, modL, wIxB, lstOf, wTruB, bor, sExtO, wRep, wSl, wSlB, wCat, wListOf, wpNone, wpSome, DL.isScal, sFor, wRng1, wRng2, gN, gTupD, gConsD, gNilD, sAsg, sPar, parK, wnNil, wnV, wnO, sRetN, ownL, wIsi, isiL, isiD, eqD, neD, wComp, sAug, wGet, isC, wFld, fldD, wMeth, insD, madeK, wrDef, wMut, sRetB, List.nil_append, List.cons_append, DL.D.ty, seqD, gFld, modI, wEnum, wRev1, sumL, allL, anyL, sFreeze, frK, wIter, wIterT, wMake, wBm, idxL, sTry, exmD, sRaise, wEqO, wChain, wDNew, sSetK, modK, dicOf, wDGetB, wDGet, dicD, wDInB, wDGet2B, sAugK, keyD, wOfK, wOfKB, fCopy, fKeys, fSorted, wSortL, wDc, wKeys, wItems, wVals, sForL, noEx, eqK, neK, eqT, neT, ltT, wRng3, kD, N_work, pairD]
    have lg := few_of hp hb h2
    have bl := bakesR_lt ok hp
    have bn := bakesR_nn (r.at g) b
    have bn2 : b ≤ n := by
      have : b * 1 ≤ b * 2 ^ g := Int.mul_le_mul_of_nonneg_left (by have : (0 : Int) < 2 ^ g := Int.pow_pos (by decide); omega) b0
      omega
    refine ⟨.int (r.at g).2, rfl, .inr ⟨by omega, by omega⟩, mulOk_big (a := 1000) (b := 4 * (g + 1) + 1) (natAbs_lt bn (by omega)) (size_natAbs r (g + 1)) (by omega), (bakesR (r.at g) b).toNat, by omega, g + 1, bakesR (r.at g) b, _, _, rfl, trivial, rfl, bn, half_of ok b0 hb, ?_⟩
    rw [← he, workW_pos r g hp]
    exact work_step ..
  · have hz : b = 0 := by simpa using h
    subst hz
    rw [workW_zero r g (Int.le_refl 0)] at he
    exact ⟨trivial, k _ (by rw [← he]; simp)⟩

theorem cal_work {f : Addr} {fd : FuncData} (F : Fun K "work" "work" s_work f fd) (hm : mg "work" = some (.ref f)) (B : Bl K mg C A_Weights) (R_Rule : RuleS K mg C) (R_Weights : WeightsS K mg A_Weights) (E_SiltError : ErrS K mg "SiltError" X_SiltError) (E_BadDay : ErrS K mg "BadDay" X_BadDay) (E_BadWeights : ErrS K mg "BadWeights" X_BadWeights) (C_Rule___getitem__ : CalG P w K mg base C 2 P_Rule___getitem__ (sp_Rule___getitem__ C)) (C_need_rule : Cal P w K mg base 1 "need_rule" P_need_rule (sp_need_rule C)) (C_need_number : CalD P w K mg base 2 "need_number" P_need_number sp_need_number [.int 0]) (C_times_baked : Cal P w K mg base 1 "times_baked" P_times_baked sp_times_baked) : Cal P w K mg base 6 "work" P_work (sp_work C) :=
  ⟨⟨f, fd, ok_work F B R_Rule R_Weights E_SiltError E_BadDay E_BadWeights C_Rule___getitem__ C_need_rule C_need_number C_times_baked, hm, F.kp, F.binds (ps := P_work) fun _ _ _ _ _ _ us hl => match us, hl with | [_, _], _ => rfl⟩, mono_spF⟩
end L53
set_option Elab.async false
set_option linter.all false
set_option maxRecDepth 100000
set_option maxHeartbeats 0
namespace L53
open PySem L2 DL
variable {P : Program} {w : World} {K : PySem.W.Frag} {mg : Str → Option Value} {base : Heap} {C A_Weights X_SiltError X_BadDay X_BadWeights : Addr}

/-! ## weights as data -/
structure We where
  f : List Int
  p : List Int
  ne : p ≠ []
  ok : ∀ x ∈ f ++ p, -100 ≤ x ∧ x ≤ 100
def We.at (u : We) (g : Nat) : Int := rowAt u.f u.p g
theorem We.at_ok (u : We) (g : Nat) : -100 ≤ u.at g ∧ u.at g ≤ 100 := u.ok _ (rowAt_mem u.ne g)
def weD (A : Addr) (u : We) : D := .obj A ["front", "period"] [.tup (u.f.map .int), .tup (u.p.map .int)]


def sp_Weights___getitem__ (A : Addr) : SpD := spF 2 (fun (a : We × Nat) => [weD A a.1, .int a.2]) (fun _ => True) (fun a d => d = .int (a.1.at a.2))

abbrev s_Weights___getitem__ : Stmt := inClass (top 42) 2
def N_Weights___getitem__ : List Str := ["self", "at"]
def P_Weights___getitem__ : List Str := ["self", "at"]
theorem sc_Weights___getitem__ : FnScope N_Weights___getitem__ P_Weights___getitem__ (defScope s_Weights___getitem__) := ⟨rfl, rfl, rfl, by decide +kernel, rfl, by decide +kernel, by decide +kernel⟩
theorem ok_Weights___getitem__ {f : Addr} {fd : FuncData} (F : Fun K "__getitem__" "Weights.__getitem__" s_Weights___getitem__ f fd) (B : Bl K mg C A_Weights) (R_Rule : RuleS K mg C) (R_Weights : WeightsS K mg A_Weights) (E_SiltError : ErrS K mg "SiltError" X_SiltError) (E_BadDay : ErrS K mg "BadDay" X_BadDay) (E_BadWeights : ErrS K mg "BadWeights" X_BadWeights) (C_told_at : Cal P w K mg base 1 "told_at" P_told_at (sp_told_at Int)) : FnOk P w K mg base (L2.CX P w) 2 f fd P_Weights___getitem__ (spOf K (sp_Weights___getitem__ A_Weights)) := by
  refine fn_ok F sc_Weights___getitem__ len_spF (io := []) io_spF (fun cdv A outer sh H E hr =>
 (db_one (ds_ret (de_c C_told_at (hr.mono (by decide)) (by rfl) (takes_of rfl rfl rfl rfl) (dr_v (de_fld R_Weights.cl R_Weights.n_front (de_var 0 (pv 0))) (dr_v (de_fld R_Weights.cl R_Weights.n_period (de_var 0 (pv 0))) (dr_v (de_var 1 (pv 1)) dr_nil))))))) ?_

  rintro ins Q R ⟨⟨r, g⟩, rfl, l, -, k⟩
  dsimp only [sSeq, sIf, sSet, sSetO, sRet, sRetO, sNext, sExpr, wTest, w1, w2, wVar, valOf, Env.at, Env.put, wOD, wLst, wTup, waNil, waCons, waStar, wC, wCall, wCallB, wIf, DL.wTru, truD, wAnd, wOr, DL.wNot, wAndV, wOrV, wNotV, List.map, List.length, List.replicate, List.replicate_succ, List.replicate_zero, DL.putK, OD.toD, o2I, o2I0, addD, mulD, ixD, lenL, lenD, intL, absL, maxL, minL, divmodL, tupleL, blOf, intOf, lstD, tupD, seqOf, outOf, List.tail, Nat.reduceAdd, Nat.reduceSub, wrNil, wrV, wrO, wCallR, wCallRO, takeA, takeK, backA, isOwn, Sl.asD, Sl.asO, spK, noInsO, sAugIx, modL, wIxB, lstOf, wTruB, bor, sExtO, wRep, wSl, wSlB, wCat, wListOf, wpNone, wpSome, DL.isScal, sFor, wRng1, wRng2, gN, gTupD, gConsD, gNilD, sAsg, sPar, parK, wnNil, wnV, wnO, sRetN, ownL, wIsi, isiL, isiD, eqD, neD, wComp, sAug, wGet, isC, wFld, fldD, wMeth, insD, madeK, wrDef, wMut, sRetB, List.nil_append, List.cons_append, DL.D.ty, seqD, gFld, modI, wEnum, wRev1, sumL, allL, anyL, sFreeze, frK, wIter, wIterT, wMake, wBm, idxL, sTry, exmD, sRaise, wEqO, wChain, wDNew, sSetK, modK, dicOf, wDGetB, wDGet, dicD, wDInB, wDGet2B, sAugK, keyD, wOfK, wOfKB, fCopy, fKeys, fSorted, wSortL, wDc, wKeys, wItems, wVals, sForL, noEx, eqK, neK, eqT, neT, ltT, wRng3, kD, N_Weights___getitem__, weD, wFld, fldD] at k ⊢
  refine ⟨rfl, rfl, (r.f, r.p, g), rfl, rfl, r.ne, fun d hd => ?_⟩
  subst hd
  exact ⟨trivial, k _ rfl⟩

theorem cal_Weights___getitem__ {f : Addr} {fd : FuncData} (F : Fun K "__getitem__" "Weights.__getitem__" s_Weights___getitem__ f fd) (h1 : PySem.W.findIn K (.ref A_Weights) "__getitem__" = some (some (.ref f))) (h2 : PySem.W.fnIn K f = true) (h3 : PySem.W.isFn K (.ref f) = true) (B : Bl K mg C A_Weights) (R_Rule : RuleS K mg C) (R_Weights : WeightsS K mg A_Weights) (E_SiltError : ErrS K mg "SiltError" X_SiltError) (E_BadDay : ErrS K mg "BadDay" X_BadDay) (E_BadWeights : ErrS K mg "BadWeights" X_BadWeights) (C_told_at : Cal P w K mg base 1 "told_at" P_told_at (sp_told_at Int)) : CalG P w K mg base A_Weights 2 P_Weights___getitem__ (sp_Weights___getitem__ A_Weights) :=
  ⟨⟨f, fd, ok_Weights___getitem__ F B R_Rule R_Weights E_SiltError E_BadDay E_BadWeights C_told_at, h1, h2, h3, F.binds (ps := P_Weights___getitem__) fun _ _ _ _ _ _ us hl => match us, hl with | [_, _], _ => rfl⟩, mono_spF⟩

/-- what layers weigh, told by their numbers from the grade g on -/
def totW (u : We) : Nat → List Int → Int
  | _, [] => 0
  | g, d :: ds => d * u.at g + totW u (g + 1) ds
def totL (u : We) : Nat → List Int → List Int
  | _, [] => []
  | g, d :: ds => d * u.at g :: totL u (g + 1) ds
theorem totL_sum (u : We) : ∀ (ds : List Int) (g : Nat), (totL u g ds).sum = totW u g ds
  | [], _ => rfl
  | d :: ds, g => by rw [totL, totW, List.sum_cons, totL_sum u ds]


def sp_Weights_total (A : Addr) : SpD := spF 2 (fun (a : We × List Int) => [weD A a.1, .lst (a.2.map .int)]) (fun a => ∀ d ∈ a.2, 0 ≤ d ∧ d < 12 ∧ a.2.length < 100000) (fun a d => d = .int (totW a.1 0 a.2))

abbrev s_Weights_total : Stmt := inClass (top 42) 4
def N_Weights_total : List Str := ["self", "told", "grade", "many"]
def P_Weights_total : List Str := ["self", "told"]
theorem sc_Weights_total : FnScope N_Weights_total P_Weights_total (defScope s_Weights_total) := ⟨rfl, rfl, rfl, by decide +kernel, rfl, by decide +kernel, by decide +kernel⟩
theorem ok_Weights_total {f : Addr} {fd : FuncData} (F : Fun K "total" "Weights.total" s_Weights_total f fd) (B : Bl K mg C A_Weights) (R_Rule : RuleS K mg C) (R_Weights : WeightsS K mg A_Weights) (E_SiltError : ErrS K mg "SiltError" X_SiltError) (E_BadDay : ErrS K mg "BadDay" X_BadDay) (E_BadWeights : ErrS K mg "BadWeights" X_BadWeights) (C_Weights___getitem__ : CalG P w K mg base A_Weights 2 P_Weights___getitem__ (sp_Weights___getitem__ A_Weights)) : FnOk P w K mg base (L2.CX P w) 4 f fd P_Weights_total (spOf K (sp_Weights_total A_Weights)) := by
  refine fn_ok F sc_Weights_total len_spF (io := []) io_spF (fun cdv A outer sh H E hr =>
 (db_one (ds_ret (de_callB (cr_sum rfl) sum_s (by rfl) B.sum (by rfl) (da_cons (do_comp (own := [("grade", 2), ("many", 3)]) rfl sc_Weights_total.nd (di_enum (by rfl) B.enumerate (da_cons (de_var 1 (pv 1)) da_nil) (fun t pt => pi_enum (by rfl) B.enumerate pt)) (blkOk_by (own := [("grade", 2), ("many", 3)]) (N := N_Weights_total) (sc := defScope s_Weights_total) (by decide +kernel)) (show ∀ v ∈ ([("grade", 2), ("many", 3)] : List (Str × Nat)).map (·.2), v ∉ ([] : List Nat) by decide) (fun _ _ _ _ _ => (dg_tup (n := 2) rfl (dgs_cons (dg_name (i := 2) (show (_ : Nat) ∉ ([] : List Nat) by decide) (by decide) sc_Weights_total.nd (by rfl) (.inl rfl)) (dgs_cons (dg_name (i := 3) (show (_ : Nat) ∉ ([] : List Nat) by decide) (by decide) sc_Weights_total.nd (by rfl) (.inl rfl)) dgs_nil)))) ht_nil (fun _ _ _ _ _ => (de_mul (de_var 3 (pv 3)) (de_g C_Weights___getitem__ (de_var 0 (pv 0)) (de_var 2 (pv 2)) (hr.mono (by decide)) takes_no)))).de da_nil))))) ?_

  rintro ins Q R ⟨⟨u, told⟩, rfl, l, h1, k⟩
  dsimp only [sSeq, sIf, sSet, sSetO, sRet, sRetO, sNext, sExpr, wTest, w1, w2, wVar, valOf, Env.at, Env.put, wOD, wLst, wTup, waNil, waCons, waStar, wC, wCall, wCallB, wIf, DL.wTru, truD, wAnd, wOr, DL.wNot, wAndV, wOrV, wNotV, List.map, List.length, List.replicate, List.replicate_succ, List.replicate_zero, DL.putK, OD.toD, o2I, o2I0, addD, mulD, ixD, lenL, lenD, intL, absL, maxL, minL, divmodL, tupleL, blOf, intOf, lstD, tupD, seqOf, outOf, List.tail, Nat.reduceAdd, Nat.reduceSub, wrNil, wrV, wrO, wCallR, wCallRO, takeA, takeK, backA, isOwn, Sl.asD, Sl.asO, spK, noInsO, sAugIx, modL, wIxB, lstOf, wTruB, bor, sExtO, wRep, wSl, wSlB, wCat, wListOf, wpNone, wpSome, DL.isScal, sFor, wRng1, wRng2, gN, gTupD, gConsD, gNilD, sAsg, sPar, parK, wnNil, wnV, wnO, sRetN, ownL, wIsi, isiL, isiD, eqD, neD, wComp, sAug, wGet, isC, wFld, fldD, wMeth, insD, madeK, wrDef, wMut, sRetB, List.nil_append, List.cons_append, DL.D.ty, seqD, gFld, modI, wEnum, wRev1, sumL, allL, anyL, sFreeze, frK, wIter, wIterT, wMake, wBm, idxL, sTry, exmD, sRaise, wEqO, wChain, wDNew, sSetK, modK, dicOf, wDGetB, wDGet, dicD, wDInB, wDGet2B, sAugK, keyD, wOfK, wOfKB, fCopy, fKeys, fSorted, wSortL, wDc, wKeys, wItems, wVals, sForL, noEx, eqK, neK, eqT, neT, ltT, wRng3, kD, N_Weights_total] at h1 k ⊢
  refine compGo_inv (fun ds acc ρ => ∃ (i : Nat) (zs as : List Int), ds = enumD i (zs.map .int) ∧ acc = as.map .int ∧ ρ = [.v (weD A_Weights u), .v (.lst (told.map .int)), .no, .no] ∧ (∀ d ∈ zs, 0 ≤ d ∧ d < 12 ∧ told.length < 100000) ∧ as ++ totL u i zs = totL u 0 told ∧ as.length + zs.length = told.length) (fun d ds acc ρ hI P hP => ?_) (fun acc ρ hI => ?_) _ _ _ ⟨0, told, [], rfl, rfl, rfl, h1, rfl, by simp⟩
  · obtain ⟨i, zs, as, e, rfl, rfl, hz, he, hl⟩ := hI
    cases zs with
    | nil => cases e
    | cons z zs =>
      obtain ⟨rfl, rfl⟩ := List.cons.inj e
      have z0 := hz z List.mem_cons_self
      have w0 := u.at_ok i
      simp only [List.length_cons] at hl
      refine ⟨rfl, rfl, fun _ => ?_, fun z => by (cases z)⟩
      refine ⟨rfl, (u, i), rfl, rfl, trivial, fun d hd => ?_⟩
      subst hd
      have w1 : (u.at i).natAbs < 2 ^ 7 := by omega
      refine ⟨mulOk_big (a := 4) (b := 7) (by omega) w1 (by decide), by rw [List.length_map]; show as.length < 16777216; omega, hP _ _ ⟨i + 1, zs, as ++ [z * u.at i], rfl, by simp, rfl, fun d hd => hz d (List.mem_cons_of_mem _ hd), ?_, by simp; omega⟩⟩
      rw [← he, totL, List.append_assoc]; rfl
  · obtain ⟨i, zs, as, e, rfl, rfl, hz, he, hl⟩ := hI
    cases zs with
    | cons z zs => cases e
    | nil =>
      rw [totL, List.append_nil] at he
      exact ⟨as, rfl, trivial, k _ (by rw [← totL_sum, ← he])⟩

theorem cal_Weights_total {f : Addr} {fd : FuncData} (F : Fun K "total" "Weights.total" s_Weights_total f fd) (M : Meth K A_Weights "total" f) (B : Bl K mg C A_Weights) (R_Rule : RuleS K mg C) (R_Weights : WeightsS K mg A_Weights) (E_SiltError : ErrS K mg "SiltError" X_SiltError) (E_BadDay : ErrS K mg "BadDay" X_BadDay) (E_BadWeights : ErrS K mg "BadWeights" X_BadWeights) (C_Weights___getitem__ : CalG P w K mg base A_Weights 2 P_Weights___getitem__ (sp_Weights___getitem__ A_Weights)) : CalM P w K mg base A_Weights 4 "total" P_Weights_total (sp_Weights_total A_Weights) :=
  ⟨⟨f, fd, ok_Weights_total F B R_Rule R_Weights E_SiltError E_BadDay E_BadWeights C_Weights___getitem__, M, F.binds (ps := P_Weights_total) fun _ _ _ _ _ _ us hl => match us, hl with | [_, _], _ => rfl⟩, mono_spF⟩

def sp_need_weights (A : Addr) : SpD := spF 1 (fun (a : We) => [weD A a]) (fun _ => True) (fun _ d => d = .non)

abbrev s_need_weights : Stmt := top 44
def N_need_weights : List Str := ["weights"]
def P_need_weights : List Str := ["weights"]
theorem sc_need_weights : FnScope N_need_weights P_need_weights (defScope s_need_weights) := ⟨rfl, rfl, rfl, by decide +kernel, rfl, by decide +kernel, by decide +kernel⟩
theorem ok_need_weights {f : Addr} {fd : FuncData} (F : Fun K "need_weights" "need_weights" s_need_weights f fd) (B : Bl K mg C A_Weights) (R_Rule : RuleS K mg C) (R_Weights : WeightsS K mg A_Weights) (E_SiltError : ErrS K mg "SiltError" X_SiltError) (E_BadDay : ErrS K mg "BadDay" X_BadDay) (E_BadWeights : ErrS K mg "BadWeights" X_BadWeights)  : FnOk P w K mg base (L2.CX P w) 1 f fd P_need_weights (spOf K (sp_need_weights A_Weights)) := by
  refine fn_ok F sc_need_weights len_spF (io := []) io_spF (fun cdv A outer sh H E hr =>
 (db_one (ds_if (dt_not (dt_tru (de_callB call_isi (isi_s (.own _) B.isc_Weights B.tn_Weights B.k_Weights) (by rfl) B.isinstance (by rfl) (da_cons (de_var 0 (pv 0)) (da_cons (de_raw (pe_glob (v := .ref A_Weights) (by rfl) R_Weights.mg rfl) rfl) da_nil))) (fun _ => rfl))) (db_one (ds_raiseE rfl (takes_of rfl rfl rfl rfl) E_BadWeights (by rfl))) db_nil))) ?_

  rintro ins Q R ⟨r, rfl, l, -, k⟩
  dsimp only [sSeq, sIf, sSet, sSetO, sRet, sRetO, sNext, sExpr, wTest, w1, w2, wVar, valOf, Env.at, Env.put, wOD, wLst, wTup, waNil, waCons, waStar, wC, wCall, wCallB, wIf, DL.wTru, truD, wAnd, wOr, DL.wNot, wAndV, wOrV, wNotV, List.map, List.length, List.replicate, List.replicate_succ, List.replicate_zero, DL.putK, OD.toD, o2I, o2I0, addD, mulD, ixD, lenL, lenD, intL, absL, maxL, minL, divmodL, tupleL, blOf, intOf, lstD, tupD, seqOf, outOf, List.tail, Nat.reduceAdd, Nat.reduceSub, wrNil, wrV, wrO, wCallR, wCallRO, takeA, takeK, backA, isOwn, Sl.asD, Sl.asO, spK, noInsO, sAugIx, modL, wIxB, lstOf, wTruB, bor, sExtO, wRep, wSl, wSlB, wCat, wListOf, wpNone, wpSome, DL.isScal, sFor, wRng1, wRng2, gN, gTupD, gConsD, gNilD, sAsg, sPar, parK, wnNil, wnV, wnO, sRetN, ownL, wIsi, isiL, isiD, eqD, neD, wComp, sAug, wGet, isC, wFld, fldD, wMeth, insD, madeK, wrDef, wMut, sRetB, List.nil_append, List.cons_append, DL.D.ty, seqD, gFld, modI, wEnum, wRev1, sumL, allL, anyL, sFreeze, frK, wIter, wIterT, wMake, wBm, idxL, sTry, exmD, sRaise, wEqO, wChain, wDNew, sSetK, modK, dicOf, wDGetB, wDGet, dicD, wDInB, wDGet2B, sAugK, keyD, wOfK, wOfKB, fCopy, fKeys, fSorted, wSortL, wDc, wKeys, wItems, wVals, sForL, noEx, eqK, neK, eqT, neT, ltT, wRng3, kD, N_need_weights, weD] at k ⊢
  exact ⟨rfl, by simp [tys], fun _ => ⟨fun z => by (cases z), fun _ => k _ rfl⟩, fun z => (z (by simp)).elim⟩

theorem cal_need_weights {f : Addr} {fd : FuncData} (F : Fun K "need_weights" "need_weights" s_need_weights f fd) (hm : mg "need_weights" = some (.ref f)) (B : Bl K mg C A_Weights) (R_Rule : RuleS K mg C) (R_Weights : WeightsS K mg A_Weights) (E_SiltError : ErrS K mg "SiltError" X_SiltError) (E_BadDay : ErrS K mg "BadDay" X_BadDay) (E_BadWeights : ErrS K mg "BadWeights" X_BadWeights)  : Cal P w K mg base 1 "need_weights" P_need_weights (sp_need_weights A_Weights) :=
  ⟨⟨f, fd, ok_need_weights F B R_Rule R_Weights E_SiltError E_BadDay E_BadWeights , hm, F.kp, F.binds (ps := P_need_weights) fun _ _ _ _ _ _ us hl => match us, hl with | [_], _ => rfl⟩, mono_spF⟩

def sp__is_weight : SpD := spF 1 (fun (a : Int) => [.int a]) (fun _ => True) (fun a d => d = .bl (decide (-100 ≤ a) && decide (a ≤ 100)))

abbrev s__is_weight : Stmt := top 45
def N__is_weight : List Str := ["weight"]
def P__is_weight : List Str := ["weight"]
theorem sc__is_weight : FnScope N__is_weight P__is_weight (defScope s__is_weight) := ⟨rfl, rfl, rfl, by decide +kernel, rfl, by decide +kernel, by decide +kernel⟩
theorem ok__is_weight {f : Addr} {fd : FuncData} (F : Fun K "_is_weight" "_is_weight" s__is_weight f fd) (B : Bl K mg C A_Weights) (R_Rule : RuleS K mg C) (R_Weights : WeightsS K mg A_Weights) (E_SiltError : ErrS K mg "SiltError" X_SiltError) (E_BadDay : ErrS K mg "BadDay" X_BadDay) (E_BadWeights : ErrS K mg "BadWeights" X_BadWeights) (C_is_whole : CalD P w K mg base 1 "is_whole" P_is_whole sp_is_whole [.int 0]) : FnOk P w K mg base (L2.CX P w) 2 f fd P__is_weight (spOf K sp__is_weight) := by
  refine fn_ok F sc__is_weight len_spF (io := []) io_spF (fun cdv A outer sh H E hr =>
 (db_one (ds_ret (de_and (de_c C_is_whole.cal (hr.mono (by decide)) (by rfl) (takes_of rfl rfl rfl rfl) (dr_v (de_var 0 (pv 0)) (dr_v (de_neg (de_gint (by rfl) B.HEAVIEST)) dr_nil))) (de_one (de_cmp op_le (ops_I0 fun _ _ _ => .bl _) (de_var 0 (pv 0)) (de_gint (by rfl) B.HEAVIEST) (nomark _))))))) ?_

  rintro ins Q R ⟨n, rfl, l, -, k⟩
  dsimp only [sSeq, sIf, sSet, sSetO, sRet, sRetO, sNext, sExpr, wTest, w1, w2, wVar, valOf, Env.at, Env.put, wOD, wLst, wTup, waNil, waCons, waStar, wC, wCall, wCallB, wIf, DL.wTru, truD, wAnd, wOr, DL.wNot, wAndV, wOrV, wNotV, List.map, List.length, List.replicate, List.replicate_succ, List.replicate_zero, DL.putK, OD.toD, o2I, o2I0, addD, mulD, ixD, lenL, lenD, intL, absL, maxL, minL, divmodL, tupleL, blOf, intOf, lstD, tupD, seqOf, outOf, List.tail, Nat.reduceAdd, Nat.reduceSub, wrNil, wrV, wrO, wCallR, wCallRO, takeA, takeK, backA, isOwn, Sl.asD, Sl.asO, spK, noInsO, sAugIx, modL, wIxB, lstOf, wTruB, bor, sExtO, wRep, wSl, wSlB, wCat, wListOf, wpNone, wpSome, DL.isScal, sFor, wRng1, wRng2, gN, gTupD, gConsD, gNilD, sAsg, sPar, parK, wnNil, wnV, wnO, sRetN, ownL, wIsi, isiL, isiD, eqD, neD, wComp, sAug, wGet, isC, wFld, fldD, wMeth, insD, madeK, wrDef, wMut, sRetB, List.nil_append, List.cons_append, DL.D.ty, seqD, gFld, modI, wEnum, wRev1, sumL, allL, anyL, sFreeze, frK, wIter, wIterT, wMake, wBm, idxL, sTry, exmD, sRaise, wEqO, wChain, wDNew, sSetK, modK, dicOf, wDGetB, wDGet, dicD, wDInB, wDGet2B, sAugK, keyD, wOfK, wOfKB, fCopy, fKeys, fSorted, wSortL, wDc, wKeys, wItems, wVals, sForL, noEx, eqK, neK, eqT, neT, ltT, wRng3, kD, N__is_weight] at k ⊢
  refine ⟨(n, -100), rfl, rfl, trivial, fun d hd => ?_⟩
  subst hd
  refine ⟨fun h => ⟨trivial, k _ ?_⟩, fun h => ⟨trivial, k _ ?_⟩⟩
  · rw [show decide (-100 ≤ n) = true from h, Bool.true_and]
  · rw [show decide (-100 ≤ n) = false from h, Bool.false_and]

theorem cal__is_weight {f : Addr} {fd : FuncData} (F : Fun K "_is_weight" "_is_weight" s__is_weight f fd) (hm : mg "_is_weight" = some (.ref f)) (B : Bl K mg C A_Weights) (R_Rule : RuleS K mg C) (R_Weights : WeightsS K mg A_Weights) (E_SiltError : ErrS K mg "SiltError" X_SiltError) (E_BadDay : ErrS K mg "BadDay" X_BadDay) (E_BadWeights : ErrS K mg "BadWeights" X_BadWeights) (C_is_whole : CalD P w K mg base 1 "is_whole" P_is_whole sp_is_whole [.int 0]) : Cal P w K mg base 2 "_is_weight" P__is_weight sp__is_weight :=
  ⟨⟨f, fd, ok__is_weight F B R_Rule R_Weights E_SiltError E_BadDay E_BadWeights C_is_whole, hm, F.kp, F.binds (ps := P__is_weight) fun _ _ _ _ _ _ us hl => match us, hl with | [_], _ => rfl⟩, mono_spF⟩

def sp_weighed (C A : Addr) : SpD := spF 3 (fun (a : Ru × We × Int) => [ruleD C a.1, weD A a.2.1, .int a.2.2]) (fun a => 0 ≤ a.2.2 ∧ a.2.2 < 2 ^ 1000) (fun a d => d = .int (totW a.2.1 0 (digsR a.1 0 a.2.2)))

abbrev s_weighed : Stmt := top 43
def N_weighed : List Str := ["rule", "weights", "day", "told"]
def P_weighed : List Str := ["rule", "weights", "day"]
theorem sc_weighed : FnScope N_weighed P_weighed (defScope s_weighed) := ⟨rfl, rfl, rfl, by decide +kernel, rfl, by decide +kernel, by decide +kernel⟩
theorem ok_weighed {f : Addr} {fd : FuncData} (F : Fun K "weighed" "weighed" s_weighed f fd) (B : Bl K mg C A_Weights) (R_Rule : RuleS K mg C) (R_Weights : WeightsS K mg A_Weights) (E_SiltError : ErrS K mg "SiltError" X_SiltError) (E_BadDay : ErrS K mg "BadDay" X_BadDay) (E_BadWeights : ErrS K mg "BadWeights" X_BadWeights) (C_digits : Cal P w K mg base 6 "digits" P_digits (sp_digits C)) (C_need_weights : Cal P w K mg base 1 "need_weights" P_need_weights (sp_need_weights A_Weights)) (C_Weights_total : CalM P w K mg base A_Weights 4 "total" P_Weights_total (sp_Weights_total A_Weights)) : FnOk P w K mg base (L2.CX P w) 7 f fd P_weighed (spOf K (sp_weighed C A_Weights)) := by
  refine fn_ok F sc_weighed len_spF (io := []) io_spF (fun cdv A outer sh H E hr =>
 (db_cons (ds_set (i := 3) (show (_ : Nat) ∉ ([] : List Nat) by decide) sc_weighed.nd (by rfl) (.inl rfl) (do_c C_digits (hr.mono (by decide)) (by rfl) (takes_of rfl rfl rfl rfl) (dr_v (de_var 0 (pv 0)) (dr_v (de_var 2 (pv 2)) dr_nil))).de)
 (db_cons (ds_expr (de_c C_need_weights (hr.mono (by decide)) (by rfl) (takes_of rfl rfl rfl rfl) (dr_v (de_var 1 (pv 1)) dr_nil)))
 (db_one (ds_ret (de_m C_Weights_total R_Weights.cl (de_var 1 (pv 1)) (hr.mono (by decide)) (takes_of rfl rfl rfl rfl) (dr_v (de_var 3 (pv 3)) dr_nil))))))) ?_

  rintro ins Q R ⟨⟨r, u, n⟩, rfl, l, ⟨h1, h2⟩, k⟩
  dsimp only [sSeq, sIf, sSet, sSetO, sRet, sRetO, sNext, sExpr, wTest, w1, w2, wVar, valOf, Env.at, Env.put, wOD, wLst, wTup, waNil, waCons, waStar, wC, wCall, wCallB, wIf, DL.wTru, truD, wAnd, wOr, DL.wNot, wAndV, wOrV, wNotV, List.map, List.length, List.replicate, List.replicate_succ, List.replicate_zero, DL.putK, OD.toD, o2I, o2I0, addD, mulD, ixD, lenL, lenD, intL, absL, maxL, minL, divmodL, tupleL, blOf, intOf, lstD, tupD, seqOf, outOf, List.tail, Nat.reduceAdd, Nat.reduceSub, wrNil, wrV, wrO, wCallR, wCallRO, takeA, takeK, backA, isOwn, Sl.asD, Sl.asO, spK, noInsO, sAugIx, modL, wIxB, lstOf, wTruB, bor, sExtO, wRep, wSl, wSlB, wCat, wListOf, wpNone, wpSome, DL.isScal, sFor, wRng1, wRng2, gN, gTupD, gConsD, gNilD, sAsg, sPar, parK, wnNil, wnV, wnO, sRetN, ownL, wIsi, isiL, isiD, eqD, neD, wComp, sAug, wGet, isC, wFld, fldD, wMeth, insD, madeK, wrDef, wMut, sRetB, List.nil_append, List.cons_append, DL.D.ty, seqD, gFld, modI, wEnum, wRev1, sumL, allL, anyL, sFreeze, frK, wIter, wIterT, wMake, wBm, idxL, sTry, exmD, sRaise, wEqO, wChain, wDNew, sSetK, modK, dicOf, wDGetB, wDGet, dicD, wDInB, wDGet2B, sAugK, keyD, wOfK, wOfKB, fCopy, fKeys, fSorted, wSortL, wDc, wKeys, wItems, wVals, sForL, noEx, eqK, neK, eqT, neT, ltT, wRng3, kD, N_weighed] at h1 h2 k ⊢
  refine ⟨(r, n), rfl, rfl, ⟨h1, h2⟩, fun xs hd => ?_⟩
  subst hd
  refine ⟨trivial, u, rfl, rfl, trivial, fun d hd => ?_⟩
  subst hd
  have hlen : (digsR r 0 n).length ≤ 1000 := digs_len r _ _ _ _ h1 h2
  have hin : ∀ d ∈ digsR r 0 n, 0 ≤ d ∧ d < 12 := digs_in r _ _ _ h1
  refine ⟨⟨rfl, rfl⟩, (u, digsR r 0 n), rfl, rfl, fun d hd => ⟨(hin d hd).1, (hin d hd).2, by dsimp only; omega⟩, fun d hd => ?_⟩
  subst hd
  exact ⟨trivial, k _ rfl⟩

theorem cal_weighed {f : Addr} {fd : FuncData} (F : Fun K "weighed" "weighed" s_weighed f fd) (hm : mg "weighed" = some (.ref f)) (B : Bl K mg C A_Weights) (R_Rule : RuleS K mg C) (R_Weights : WeightsS K mg A_Weights) (E_SiltError : ErrS K mg "SiltError" X_SiltError) (E_BadDay : ErrS K mg "BadDay" X_BadDay) (E_BadWeights : ErrS K mg "BadWeights" X_BadWeights) (C_digits : Cal P w K mg base 6 "digits" P_digits (sp_digits C)) (C_need_weights : Cal P w K mg base 1 "need_weights" P_need_weights (sp_need_weights A_Weights)) (C_Weights_total : CalM P w K mg base A_Weights 4 "total" P_Weights_total (sp_Weights_total A_Weights)) : Cal P w K mg base 7 "weighed" P_weighed (sp_weighed C A_Weights) :=
  ⟨⟨f, fd, ok_weighed F B R_Rule R_Weights E_SiltError E_BadDay E_BadWeights C_digits C_need_weights C_Weights_total, hm, F.kp, F.binds (ps := P_weighed) fun _ _ _ _ _ _ us hl => match us, hl with | [_, _, _], _ => rfl⟩, mono_spF⟩

def sp_Weights___init__ (A : Addr) : SpD := spIF A 2 (fun (a : (Bool × List Int) × Bool × List Int) => [seqD a.1.1 (a.1.2.map .int), seqD a.2.1 (a.2.2.map .int)]) (fun a => a.1.2.length ≤ 6 ∧ a.2.2 ≠ [] ∧ a.2.2.length ≤ 6 ∧ ∀ x ∈ a.1.2 ++ a.2.2, -100 ≤ x ∧ x ≤ 100)
  (fun a ns xs => ∃ u : We, ns = [("front" : Str), "period"] ∧ xs = [.tup (u.f.map .int), .tup (u.p.map .int)] ∧ ∀ g, u.at g = rowAt a.1.2 a.2.2 g)

abbrev s_Weights___init__ : Stmt := inClass (top 42) 0
def N_Weights___init__ : List Str := ["self", "front", "period", "weight"]
def P_Weights___init__ : List Str := ["self", "front", "period"]
theorem sc_Weights___init__ : FnScope N_Weights___init__ P_Weights___init__ (defScope s_Weights___init__) := ⟨rfl, rfl, rfl, by decide +kernel, rfl, by decide +kernel, by decide +kernel⟩
theorem ok_Weights___init__ {f : Addr} {fd : FuncData} (F : Fun K "__init__" "Weights.__init__" s_Weights___init__ f fd) (B : Bl K mg C A_Weights) (R_Rule : RuleS K mg C) (R_Weights : WeightsS K mg A_Weights) (E_SiltError : ErrS K mg "SiltError" X_SiltError) (E_BadDay : ErrS K mg "BadDay" X_BadDay) (E_BadWeights : ErrS K mg "BadWeights" X_BadWeights) (C_is_part : Cal P w K mg base 1 "is_part" P_is_part sp_is_part) (C__is_weight : Cal P w K mg base 2 "_is_weight" P__is_weight sp__is_weight) (C_shortest : Cal P w K mg base 2 "shortest" P_shortest (sp_shortest Int)) : FnOk P w K mg base (L2.CX P w) 4 f fd P_Weights___init__ (spOf K (sp_Weights___init__ A_Weights)) := by
  refine fn_ok F sc_Weights___init__ len_spIF (io := [0]) io_spIF (fun cdv A outer sh H E hr =>
 (db_cons (ds_if (dw_or (dt_not (dt_tru (de_c C_is_part (hr.mono (by decide)) (by rfl) (takes_of rfl rfl rfl rfl) (dr_v (de_var 1 (pv 1)) dr_nil)) (fun _ => rfl))) (dw_or (dt_not (dt_tru (de_c C_is_part (hr.mono (by decide)) (by rfl) (takes_of rfl rfl rfl rfl) (dr_v (de_var 2 (pv 2)) dr_nil)) (fun _ => rfl))) (dw_or1 (dt_not (dt_tru (de_var 2 (pv 2)) (fun _ => rfl)))))).dt (db_one (ds_raiseE rfl (takes_of rfl rfl rfl rfl) E_BadWeights (by rfl))) db_nil)
 (db_cons (ds_if (dt_not (dt_tru (de_callB (cr_all rfl) all_s (by rfl) B.all (by rfl) (da_cons (do_comp (own := [("weight", 3)]) rfl sc_Weights___init__.nd (di_list (do_lst (da_star (de_var 1 (pv 1)) (da_star (de_var 2 (pv 2)) da_nil))).de) (blkOk_by (own := [("weight", 3)]) (N := N_Weights___init__) (sc := defScope s_Weights___init__) (by decide +kernel)) (show ∀ v ∈ ([("weight", 3)] : List (Str × Nat)).map (·.2), v ∉ ([0] : List Nat) by decide) (fun _ _ _ _ _ => (dg_name (i := 3) (show (_ : Nat) ∉ ([0] : List Nat) by decide) (by decide) sc_Weights___init__.nd (by rfl) (.inl rfl))) ht_nil (fun _ _ _ _ _ => (de_c C__is_weight (hr.mono (by decide)) (by rfl) takes_no (dr_v (de_var 3 (pv 3)) dr_nil)))).de da_nil)) (fun _ => rfl))) (db_one (ds_raiseE rfl (takes_of rfl rfl rfl rfl) E_BadWeights (by rfl))) db_nil)
 (db_one (ds_asgH (de_c C_shortest (hr.mono (by decide)) (by rfl) (takes_of rfl rfl rfl rfl) (dr_v (de_var 1 (pv 1)) (dr_v (de_var 2 (pv 2)) dr_nil))) (dh_tup (n := 2) rfl (dhs_cons (dh_attr (i := 0) (pv 0) R_Weights.cl R_Weights.n_front) (dhs_cons (dh_attr (i := 0) (pv 0) R_Weights.cl R_Weights.n_period) dhs_nil)))))))) ?_

  rintro ins Q R ⟨dx, ⟨⟨b1, f⟩, b2, p⟩, rfl, l, ⟨hf, hp, hl, hv⟩, k⟩
  have lm : ∀ zs : List Int, zs.length ≤ 6 → decide (((zs.map D.int).length : Int) ≤ 6) = true := fun zs h => by
    rw [List.length_map]; exact decide_eq_true (by omega)
  have ep : (p.map D.int).isEmpty = false := by
    cases p with
    | nil => exact absurd rfl hp
    | cons _ _ => rfl
  have ll : (f.map D.int ++ (p.map D.int ++ [])).length ≤ LIM := by
    simp only [List.length_append, List.length_map, List.length_nil]
    show _ ≤ 16777216
    have hf' : f.length ≤ 6 := hf
    have hl' : p.length ≤ 6 := hl
    omega
  dsimp only [sSeq, sIf, sSet, sSetO, sRet, sRetO, sNext, sExpr, wTest, w1, w2, wVar, valOf, Env.at, Env.put, wOD, wLst, wTup, waNil, waCons, waStar, wC, wCall, wCallB, wIf, DL.wTru, truD, wAnd, wOr, DL.wNot, wAndV, wOrV, wNotV, List.map, List.length, List.replicate, List.replicate_succ, List.replicate_zero, DL.putK, OD.toD, o2I, o2I0, addD, mulD, ixD, lenL, lenD, intL, absL, maxL, minL, divmodL, tupleL, blOf, intOf, lstD, tupD, seqOf, outOf, List.tail, Nat.reduceAdd, Nat.reduceSub, wrNil, wrV, wrO, wCallR, wCallRO, takeA, takeK, backA, isOwn, Sl.asD, Sl.asO, spK, noInsO, sAugIx, modL, wIxB, lstOf, wTruB, bor, sExtO, wRep, wSl, wSlB, wCat, wListOf, wpNone, wpSome, DL.isScal, sFor, wRng1, wRng2, gN, gTupD, gConsD, gNilD, sAsg, sPar, parK, wnNil, wnV, wnO, sRetN, ownL, wIsi, isiL, isiD, eqD, neD, wComp, sAug, wGet, isC, wFld, fldD, wMeth, insD, madeK, wrDef, wMut, sRetB, List.nil_append, List.cons_append, DL.D.ty, seqD, gFld, modI, wEnum, wRev1, sumL, allL, anyL, sFreeze, frK, wIter, wIterT, wMake, wBm, idxL, sTry, exmD, sRaise, wEqO, wChain, wDNew, sSetK, modK, dicOf, wDGetB, wDGet, dicD, wDInB, wDGet2B, sAugK, keyD, wOfK, wOfKB, fCopy, fKeys, fSorted, wSortL, wDc, wKeys, wItems, wVals, sForL, noEx, eqK, neK, eqT, neT, ltT, wRng3, kD, N_Weights___init__] at hf hp hl hv k ⊢
  refine ⟨(b1, f.map D.int), rfl, rfl, trivial, fun d hd => ?_⟩
  subst hd
  rw [lm f hf]
  refine ⟨fun z => by (cases z), fun _ => ?_⟩
  refine ⟨(b2, p.map D.int), rfl, rfl, trivial, fun d hd => ?_⟩
  subst hd
  rw [lm p hl]
  refine ⟨fun z => by (cases z), fun _ => ?_⟩
  dsimp only [sSeq, sIf, sSet, sSetO, sRet, sRetO, sNext, sExpr, wTest, w1, w2, wVar, valOf, Env.at, Env.put, wOD, wLst, wTup, waNil, waCons, waStar, wC, wCall, wCallB, wIf, DL.wTru, truD, wAnd, wOr, DL.wNot, wAndV, wOrV, wNotV, List.map, List.length, List.replicate, List.replicate_succ, List.replicate_zero, DL.putK, OD.toD, o2I, o2I0, addD, mulD, ixD, lenL, lenD, intL, absL, maxL, minL, divmodL, tupleL, blOf, intOf, lstD, tupD, seqOf, outOf, List.tail, Nat.reduceAdd, Nat.reduceSub, wrNil, wrV, wrO, wCallR, wCallRO, takeA, takeK, backA, isOwn, Sl.asD, Sl.asO, spK, noInsO, sAugIx, modL, wIxB, lstOf, wTruB, bor, sExtO, wRep, wSl, wSlB, wCat, wListOf, wpNone, wpSome, DL.isScal, sFor, wRng1, wRng2, gN, gTupD, gConsD, gNilD, sAsg, sPar, parK, wnNil, wnV, wnO, sRetN, ownL, wIsi, isiL, isiD, eqD, neD, wComp, sAug, wGet, isC, wFld, fldD, wMeth, insD, madeK, wrDef, wMut, sRetB, List.nil_append, List.cons_append, DL.D.ty, seqD, gFld, modI, wEnum, wRev1, sumL, allL, anyL, sFreeze, frK, wIter, wIterT, wMake, wBm, idxL, sTry, exmD, sRaise, wEqO, wChain, wDNew, sSetK, modK, dicOf, wDGetB, wDGet, dicD, wDInB, wDGet2B, sAugK, keyD, wOfK, wOfKB, fCopy, fKeys, fSorted, wSortL, wDc, wKeys, wItems, wVals, sForL, noEx, eqK, neK, eqT, neT, ltT, wRng3, kD, N_Weights___init__]
  cases b1 <;> cases b2
  all_goals
    dsimp only [sSeq, sIf, sSet, sSetO, sRet, sRetO, sNext, sExpr, wTest, w1, w2, wVar, valOf, Env.at, Env.put, wOD, wLst, wTup, waNil, waCons, waStar, wC, wCall, wCallB, wIf, DL.wTru, truD, wAnd, wOr, DL.wNot, wAndV, wOrV, wNotV, List.map, List.length, List.replicate, List.replicate_succ, List.replicate_zero, DL.putK, OD.toD, o2I, o2I0, addD, mulD, ixD, lenL, lenD, intL, absL, maxL, minL, divmodL, tupleL, blOf, intOf, lstD, tupD, seqOf, outOf, List.tail, Nat.reduceAdd, Nat.reduceSub, wrNil, wrV, wrO, wCallR, wCallRO, takeA, takeK, backA, isOwn, Sl.asD, Sl.asO, spK, noInsO, sAugIx, modL, wIxB, lstOf, wTruB, bor, sExtO, wRep, wSl, wSlB, wCat, wListOf, wpNone, wpSome, DL.isScal, sFor, wRng1, wRng2, gN, gTupD, gConsD, gNilD, sAsg, sPar, parK, wnNil, wnV, wnO, sRetN, ownL, wIsi, isiL, isiD, eqD, neD, wComp, sAug, wGet, isC, wFld, fldD, wMeth, insD, madeK, wrDef, wMut, sRetB, List.nil_append, List.cons_append, DL.D.ty, seqD, gFld, modI, wEnum, wRev1, sumL, allL, anyL, sFreeze, frK, wIter, wIterT, wMake, wBm, idxL, sTry, exmD, sRaise, wEqO, wChain, wDNew, sSetK, modK, dicOf, wDGetB, wDGet, dicD, wDInB, wDGet2B, sAugK, keyD, wOfK, wOfKB, fCopy, fKeys, fSorted, wSortL, wDc, wKeys, wItems, wVals, sForL, noEx, eqK, neK, eqT, neT, ltT, wRng3, kD, N_Weights___init__]
    rw [ep]
    refine ⟨fun z => by (cases z), fun _ => ⟨ll, ?_⟩⟩
    rw [List.append_nil]
    refine compGo_inv (fun ds acc ρ => ∃ (zs : List Int) (k : Nat), ds = zs.map .int ∧ acc = (List.replicate k true).map .bl ∧ ρ = [_, _, _, .no] ∧ (∀ x ∈ zs, -100 ≤ x ∧ x ≤ 100) ∧ k + zs.length = f.length + p.length) (fun d ds acc ρ hI P hP => ?_) (fun acc ρ hI => ?_) _ _ _ ⟨f ++ p, 0, by rw [List.map_append], rfl, rfl, hv, by simp⟩
    · obtain ⟨zs, k, e, rfl, rfl, hz, hl⟩ := hI
      cases zs with
      | nil => cases e
      | cons z zs =>
        obtain ⟨rfl, rfl⟩ := List.cons.inj e
        have z0 := hz z List.mem_cons_self
        simp only [List.length_cons] at hl
        dsimp only [sSeq, sIf, sSet, sSetO, sRet, sRetO, sNext, sExpr, wTest, w1, w2, wVar, valOf, Env.at, Env.put, wOD, wLst, wTup, waNil, waCons, waStar, wC, wCall, wCallB, wIf, DL.wTru, truD, wAnd, wOr, DL.wNot, wAndV, wOrV, wNotV, List.map, List.length, List.replicate, List.replicate_succ, List.replicate_zero, DL.putK, OD.toD, o2I, o2I0, addD, mulD, ixD, lenL, lenD, intL, absL, maxL, minL, divmodL, tupleL, blOf, intOf, lstD, tupD, seqOf, outOf, List.tail, Nat.reduceAdd, Nat.reduceSub, wrNil, wrV, wrO, wCallR, wCallRO, takeA, takeK, backA, isOwn, Sl.asD, Sl.asO, spK, noInsO, sAugIx, modL, wIxB, lstOf, wTruB, bor, sExtO, wRep, wSl, wSlB, wCat, wListOf, wpNone, wpSome, DL.isScal, sFor, wRng1, wRng2, gN, gTupD, gConsD, gNilD, sAsg, sPar, parK, wnNil, wnV, wnO, sRetN, ownL, wIsi, isiL, isiD, eqD, neD, wComp, sAug, wGet, isC, wFld, fldD, wMeth, insD, madeK, wrDef, wMut, sRetB, List.nil_append, List.cons_append, DL.D.ty, seqD, gFld, modI, wEnum, wRev1, sumL, allL, anyL, sFreeze, frK, wIter, wIterT, wMake, wBm, idxL, sTry, exmD, sRaise, wEqO, wChain, wDNew, sSetK, modK, dicOf, wDGetB, wDGet, dicD, wDInB, wDGet2B, sAugK, keyD, wOfK, wOfKB, fCopy, fKeys, fSorted, wSortL, wDc, wKeys, wItems, wVals, sForL, noEx, eqK, neK, eqT, neT, ltT, wRng3, kD, N_Weights___init__]
        refine ⟨fun _ => ?_, fun z => by (cases z)⟩
        refine ⟨z, rfl, rfl, trivial, fun d hd => ?_⟩
        subst hd
        rw [decide_eq_true z0.1, decide_eq_true z0.2]
        refine ⟨by simp; show k < 16777216; omega, hP _ _ ⟨zs, k + 1, rfl, ?_, rfl, fun x hx => hz x (List.mem_cons_of_mem _ hx), by omega⟩⟩
        rw [List.replicate_succ', List.map_append]; rfl
    · obtain ⟨zs, n, e, rfl, rfl, hz, hl2⟩ := hI
      dsimp only [sSeq, sIf, sSet, sSetO, sRet, sRetO, sNext, sExpr, wTest, w1, w2, wVar, valOf, Env.at, Env.put, wOD, wLst, wTup, waNil, waCons, waStar, wC, wCall, wCallB, wIf, DL.wTru, truD, wAnd, wOr, DL.wNot, wAndV, wOrV, wNotV, List.map, List.length, List.replicate, List.replicate_succ, List.replicate_zero, DL.putK, OD.toD, o2I, o2I0, addD, mulD, ixD, lenL, lenD, intL, absL, maxL, minL, divmodL, tupleL, blOf, intOf, lstD, tupD, seqOf, outOf, List.tail, Nat.reduceAdd, Nat.reduceSub, wrNil, wrV, wrO, wCallR, wCallRO, takeA, takeK, backA, isOwn, Sl.asD, Sl.asO, spK, noInsO, sAugIx, modL, wIxB, lstOf, wTruB, bor, sExtO, wRep, wSl, wSlB, wCat, wListOf, wpNone, wpSome, DL.isScal, sFor, wRng1, wRng2, gN, gTupD, gConsD, gNilD, sAsg, sPar, parK, wnNil, wnV, wnO, sRetN, ownL, wIsi, isiL, isiD, eqD, neD, wComp, sAug, wGet, isC, wFld, fldD, wMeth, insD, madeK, wrDef, wMut, sRetB, List.nil_append, List.cons_append, DL.D.ty, seqD, gFld, modI, wEnum, wRev1, sumL, allL, anyL, sFreeze, frK, wIter, wIterT, wMake, wBm, idxL, sTry, exmD, sRaise, wEqO, wChain, wDNew, sSetK, modK, dicOf, wDGetB, wDGet, dicD, wDInB, wDGet2B, sAugK, keyD, wOfK, wOfKB, fCopy, fKeys, fSorted, wSortL, wDc, wKeys, wItems, wVals, sForL, noEx, eqK, neK, eqT, neT, ltT, wRng3, kD, N_Weights___init__]
      refine ⟨_, rfl, ?_⟩
      rw [show (List.replicate n true).all id = true by simp]
      refine ⟨fun z => by (cases z), fun _ => ?_⟩
      first
      | refine ⟨((true, f), true, p), rfl, rfl, ⟨hf, hp, hl⟩, ?_⟩
      | refine ⟨((true, f), false, p), rfl, rfl, ⟨hf, hp, hl⟩, ?_⟩
      | refine ⟨((false, f), true, p), rfl, rfl, ⟨hf, hp, hl⟩, ?_⟩
      | refine ⟨((false, f), false, p), rfl, rfl, ⟨hf, hp, hl⟩, ?_⟩
      rintro d ⟨f', p', rfl, h1, h2, h3⟩
      exact ⟨rfl, ⟨rfl, by decide, rfl, by decide, rfl, k _ _ ⟨⟨f', p', h1, fun x hx => hv x (h3 x hx)⟩, rfl, rfl, h2⟩⟩⟩

theorem cal_Weights {f : Addr} {fd : FuncData} (F : Fun K "__init__" "Weights.__init__" s_Weights___init__ f fd) (M : Mk K A_Weights f) (B : Bl K mg C A_Weights) (R_Rule : RuleS K mg C) (R_Weights : WeightsS K mg A_Weights) (E_SiltError : ErrS K mg "SiltError" X_SiltError) (E_BadDay : ErrS K mg "BadDay" X_BadDay) (E_BadWeights : ErrS K mg "BadWeights" X_BadWeights) (C_is_part : Cal P w K mg base 1 "is_part" P_is_part sp_is_part) (C__is_weight : Cal P w K mg base 2 "_is_weight" P__is_weight sp__is_weight) (C_shortest : Cal P w K mg base 2 "shortest" P_shortest (sp_shortest Int)) : CalN P w K mg base A_Weights "Weights" 4 P_Weights___init__ (sp_Weights___init__ A_Weights) :=
  ⟨⟨f, fd, ok_Weights___init__ F B R_Rule R_Weights E_SiltError E_BadDay E_BadWeights C_is_part C__is_weight C_shortest, M, F.binds (ps := P_Weights___init__) fun _ _ _ _ _ _ us hl => match us, hl with | [_, _, _], _ => rfl⟩, R_Weights.mg, mono_spIF⟩

theorem totW_tail {u v : We} (h : ∀ g, v.at g = u.at (g + 1)) : ∀ (ds : List Int) (g : Nat), totW u (g + 1) ds = totW v g ds
  | [], _ => rfl
  | d :: ds, g => by rw [totW, totW, h g, totW_tail h ds (g + 1)]

end L53
set_option Elab.async false
set_option linter.all false
set_option maxRecDepth 100000
set_option maxHeartbeats 0
namespace L53
open PySem L2 DL
variable {P : Program} {w : World} {K : PySem.W.Frag} {mg : Str → Option Value} {base : Heap} {C A_Weights X_SiltError X_BadDay X_BadWeights : Addr}

/-! ## work, places, weights, first days without the first grade -/
theorem workW_tail {r t : Ru} (h : TailOf r t) : ∀ (k g : Nat) (n : Int), n ≤ k → workW r (g + 1) n = workW t g n
  | 0, g, n, hk => by rw [workW_zero r _ (by omega), workW_zero t _ (by omega)]
  | k + 1, g, n, hk => by
    by_cases z : n ≤ 0
    · rw [workW_zero r _ z, workW_zero t _ z]
    · have := bakesR_lt (r.at_ok (g + 1)) (n := n) (by omega)
      rw [workW_pos r _ (by omega), workW_pos t _ (by omega), h g, workW_tail h k (g + 1) _ (by omega)]
theorem work_behind {r t : Ru} (h : TailOf r t) {n : Int} (hn : 0 ≤ n) : workW r 0 n = (r.at 0).2 * madeR r 1 n + (r.at 0).2 * workW t 0 (madeR r 1 n) := by
  show _ = (r.at 0).2 * bakesR (r.at 0) n + (r.at 0).2 * workW t 0 (bakesR (r.at 0) n)
  by_cases z : n ≤ 0
  · have : n = 0 := by omega
    subst this
    rw [bakesR_zero (r.at_ok 0), workW_zero r 0 (Int.le_refl 0), workW_zero t 0 (Int.le_refl 0)]; omega
  · rw [workW_pos r 0 (by omega), Int.mul_add, workW_tail h (bakesR (r.at 0) n).toNat 0 _ (by have := bakesR_nn (r.at 0) n; omega)]
theorem firstL_tail {r t : Ru} (h : TailOf r t) : ∀ (k g : Nat) (n : Int), n ≤ k → firstL r (g + 1) n = firstL t g n
  | 0, g, n, hk => by rw [firstL_zero r _ (by omega), firstL_zero t _ (by omega)]
  | k + 1, g, n, hk => by
    by_cases z : n ≤ 0
    · rw [firstL_zero r _ z, firstL_zero t _ z]
    · have h1 := (r.at_ok (g + 1)).lo; have h2 := (r.at_ok (g + 1)).le
      rw [firstL_pos r _ (by omega), firstL_pos t _ (by omega), h g, firstL_tail h k (g + 1) _ (by omega)]
theorem sumW_tail {r t : Ru} (h : TailOf r t) : ∀ (ds : List Int) (g : Nat), sumW r (g + 1) ds = (r.at 0).2 * sumW t g ds
  | [], g => by rw [sumW, sumW, Int.mul_zero]
  | d :: ds, g => by
    rw [sumW, sumW, sumW_tail h ds (g + 1), sizeR_tail h g, Int.mul_add, ← Int.mul_assoc, ← Int.mul_assoc, Int.mul_comm d]
theorem first_behind {r t : Ru} (h : TailOf r t) {n : Int} (hn : (r.at 0).1 - 1 < n) : firstR r n = (r.at 0).1 - 1 + (r.at 0).2 * firstR t (n - ((r.at 0).1 - 1)) := by
  have h1 := (r.at_ok 0).lo; have h2 := (r.at_ok 0).le
  unfold firstR
  rw [firstL_pos r 0 (by omega), sumW, sumW_tail h, show min n ((r.at 0).1 - 1) = (r.at 0).1 - 1 by omega, firstL_tail h (n - ((r.at 0).1 - 1)).toNat 0 _ (by omega)]
  show _ * 1 + _ = _
  omega
theorem ediv_lt_iff {b p a : Int} (hp : 0 < p) : a * p ≤ b ↔ a ≤ b / p := (Int.le_ediv_iff_mul_le hp).symm
theorem sumW_nn (r : Ru) : ∀ (ds : List Int) (g : Nat), (∀ d ∈ ds, 0 ≤ d) → 0 ≤ sumW r g ds
  | [], _, _ => Int.le_refl _
  | d :: ds, g, h => by
    rw [sumW]
    have h1 := sumW_nn r ds (g + 1) fun x hx => h x (List.mem_cons_of_mem _ hx)
    have h2 := Int.mul_nonneg (h d List.mem_cons_self) (Int.le_of_lt (sizeR_pos r g))
    omega
/-- where a day lies, without the first grade: unless it is in a layer of this -/
theorem placeF_behind {r t : Ru} (h : TailOf r t) (d : Int) (ds : List Int) : ∀ (m : Nat) (b num : Int) (g : Nat) (x : Int), (∀ d ∈ ds, 0 ≤ d) → m ≤ ds.length → 0 ≤ b → placeF r (d :: ds) (m + 1) b num = some (g + 1, x) →
    placeF t ds m (b / (r.at 0).2) num = some (g, x) ∧ b / (r.at 0).2 < sumW t 0 (ds.take m)
  | 0, b, num, g, x, hd, hm, b0, e => by
    rw [placeF] at e
    by_cases z : (d :: ds).getD 0 0 * sizeR r 0 ≤ b
    · rw [if_pos z, placeF] at e; cases e
    · rw [if_neg z] at e; cases e
  | m + 1, b, num, g, x, hd, hm, b0, e => by
    have hb := (r.at_ok 0).lo
    have hp : 0 < (r.at 0).2 := by omega
    rw [placeF, List.getD_cons_succ, sizeR_tail h m] at e
    have em : ds.getD m 0 = ds[m] := by rw [List.getD_eq_getElem?_getD, List.getElem?_eq_getElem (by omega)]; rfl
    have e1 : ds.getD m 0 * ((r.at 0).2 * sizeR t m) = ds.getD m 0 * sizeR t m * (r.at 0).2 := by rw [Int.mul_comm (r.at 0).2, ← Int.mul_assoc]
    rw [e1] at e
    rw [placeF, sumW_take t ds (by omega), ← em]
    by_cases z : ds.getD m 0 * sizeR t m * (r.at 0).2 ≤ b
    · rw [if_pos z] at e
      have z2 := (ediv_lt_iff hp).mp z
      rw [if_pos z2]
      have ih := placeF_behind h d ds m _ _ g x hd (by omega) (by omega) e
      rw [Int.sub_mul_ediv_right _ _ (by omega)] at ih
      exact ⟨ih.1, by omega⟩
    · rw [if_neg z] at e
      have z2 : ¬ ds.getD m 0 * sizeR t m ≤ b / (r.at 0).2 := fun w => z ((ediv_lt_iff hp).mpr w)
      rw [if_neg z2]
      cases e
      refine ⟨by rw [Int.ediv_ediv_of_nonneg (by omega)], ?_⟩
      have := sumW_nn t (ds.take m) 0 fun d hx => hd d (List.mem_of_mem_take hx)
      omega
theorem place_behind {r t : Ru} (h : TailOf r t) {one n : Int} (h1 : 1 ≤ one) (h2 : one ≤ n) (hg : (placeR r one n).1 ≠ 0) :
    1 ≤ (one + (r.at 0).2 - 1) / (r.at 0).2 ∧ (one + (r.at 0).2 - 1) / (r.at 0).2 ≤ madeR r 1 n ∧ placeR t ((one + (r.at 0).2 - 1) / (r.at 0).2) (madeR r 1 n) = ((placeR r one n).1 - 1, (placeR r one n).2) := by
  have hb := (r.at_ok 0).lo
  have ej : (one + (r.at 0).2 - 1) / (r.at 0).2 = (one - 1) / (r.at 0).2 + 1 := by
    rw [show one + (r.at 0).2 - 1 = (one - 1) + 1 * (r.at 0).2 by omega, Int.add_mul_ediv_right _ _ (by omega)]
  have j0 : 0 ≤ (one - 1) / (r.at 0).2 := Int.ediv_nonneg (by omega) (by omega)
  have m0 := madeR_nn r 1 (n := n) (by omega)
  have ed : digsR r 0 n = (n - bakesR (r.at 0) n * (r.at 0).2) :: digsR t 0 (madeR r 1 n) := by
    rw [digsR_pos r 0 (by omega), digsR_tail h]; rfl
  have hd : ∀ d ∈ digsR t 0 (madeR r 1 n), 0 ≤ d := fun d hx => (digs_in t _ _ _ m0 d hx).1
  have hs := sumW_digs t m0
  unfold placeR at hg ⊢
  rw [ed] at hg ⊢
  rw [List.length_cons] at hg ⊢
  cases e : placeF r ((n - bakesR (r.at 0) n * (r.at 0).2) :: digsR t 0 (madeR r 1 n)) ((digsR t 0 (madeR r 1 n)).length + 1) (one - 1) 0 with
  | none => rw [e] at hg; exact absurd rfl hg
  | some y =>
    obtain ⟨g, x⟩ := y
    rw [e] at hg
    cases g with
    | zero => exact absurd rfl hg
    | succ g =>
      obtain ⟨q1, q2⟩ := placeF_behind h _ _ _ _ _ g x hd (Nat.le_refl _) (by omega) e
      rw [List.take_length, hs] at q2
      rw [ej, show (one - 1) / (r.at 0).2 + 1 - 1 = (one - 1) / (r.at 0).2 by omega, q1]
      exact ⟨by omega, by omega, rfl⟩
theorem blockT_len (g : Nat) (size : Int) : ∀ k first, (blockT g size k first).length = k
  | 0, _ => rfl
  | k + 1, first => congrArg Nat.succ (blockT_len g size k _)
theorem laysT_len (r : Ru) (ds : List Int) (h : ∀ d ∈ ds, d < 12) : ∀ (m : Nat) (f : Int), (laysT r ds m f).length ≤ 12 * m
  | 0, _ => Nat.le_refl _
  | m + 1, f => by
    rw [laysT, List.length_append, blockT_len]
    have ih := laysT_len r ds h m (f + (ds.getD m 0).toNat * sizeR r m)
    have : ds.getD m 0 < 12 := by
      rw [List.getD_eq_getElem?_getD]
      cases e : ds[m]? with
      | none => decide
      | some x => exact h x (List.mem_of_getElem? e)
    omega
theorem owedR_lt (r : Ru) : ∀ g, owedR r g < 2 ^ (4 * g + 1)
  | 0 => by show (0 : Int) < 2 ^ (4 * 0 + 1); decide
  | g + 1 => by
    have h0 := owedR_lt r g
    have h1 := sizeR_lt r g; have h4 := sizeR_pos r g
    have h2 := (r.at_ok g).lo; have h3 := (r.at_ok g).hi
    show owedR r g + sizeR r g * ((r.at g).1 - (r.at g).2) < _
    have e : (2 : Int) ^ (4 * (g + 1) + 1) = 2 ^ (4 * g + 1) * 16 := by
      rw [show 4 * (g + 1) + 1 = (4 * g + 1) + 4 by omega, Int.pow_add]; rfl
    rw [e]
    have : sizeR r g * ((r.at g).1 - (r.at g).2) ≤ sizeR r g * 10 := Int.mul_le_mul_of_nonneg_left (by omega) (Int.le_of_lt h4)
    omega
/-- days of low grades are not far -/
theorem dayMade_lt (r : Ru) {g : Nat} (hg : g ≤ 4) {n k : Int} (hn : 0 ≤ n) (hk : n ≤ k) : 0 ≤ dayMadeR r g n ∧ dayMadeR r g n < 131072 + k * 131072 ∧ (0 < n → 0 < dayMadeR r g n) := by
  unfold dayMadeR
  have h1 := owedR_lt r g; have h2 := owedR_nn r g; have h3 := sizeR_lt r g; have h4 := sizeR_pos r g
  have e : (2 : Int) ^ (4 * g + 1) ≤ 131072 := by
    have e1 : (2 : Nat) ^ (4 * g + 1) ≤ 2 ^ 17 := Nat.pow_le_pow_right (by decide) (by omega)
    have e0 : ((2 ^ (4 * g + 1) : Nat) : Int) ≤ ((131072 : Nat) : Int) := Int.ofNat_le.mpr (Nat.le_trans e1 (by decide))
    rw [Int.natCast_pow] at e0
    exact e0
  have m0 : 0 ≤ n * sizeR r g := Int.mul_nonneg hn (Int.le_of_lt h4)
  have m1 : n * sizeR r g ≤ k * 131072 := by
    have a1 : n * sizeR r g ≤ n * 131072 := Int.mul_le_mul_of_nonneg_left (by omega) hn
    omega
  by_cases z : n = 0
  · rw [if_pos z]
    exact ⟨by omega, by omega, fun h => by omega⟩
  · rw [if_neg z]
    have : 0 < n * sizeR r g := Int.mul_pos (by omega) h4
    exact ⟨by omega, by omega, fun _ => by omega⟩
theorem baked_len (r : Ru) : ∀ (k g : Nat) (n : Int) (m : Nat), n < 2 ^ m → (bakedF r k g n).length ≤ m
  | 0, _, _, _, _ => Nat.zero_le _
  | k + 1, g, n, m, h => by
    unfold bakedF
    by_cases z : bakesR (r.at g) n > bakesR (r.at g) (n - 1)
    · rw [if_pos z]
      have z1 := bakesR_nn (r.at g) (n - 1)
      have hn : 0 < n := by
        by_cases w : n ≤ 0
        · rw [bakesR_neg _ (r.at_ok g) w] at z; omega
        · omega
      have h1 := bakesR_half (r.at_ok g) (n := n) (by omega)
      cases m with
      | zero => omega
      | succ m =>
        rw [Int.pow_succ] at h
        exact Nat.succ_le_succ (baked_len r k (g + 1) _ m (by omega))
    · rw [if_neg z]; exact Nat.zero_le _
theorem rest_first {N : DL.Env → Prop} {G : Prop} {ρ : DL.Env} (h1 : N ρ) (h2 : N ρ → G) : G := h2 h1

end L53
set_option Elab.async false
set_option linter.all false
set_option maxRecDepth 100000
set_option maxHeartbeats 0
namespace L53
open PySem L2 DL
variable {P : Program} {w : World} {K : PySem.W.Frag} {mg : Str → Option Value} {base : Heap} {C A_Weights X_SiltError X_BadDay X_BadWeights : Addr}

def sp_law : SpD := spF 1 (fun (a : Bool × List Int) => [scrD a.1 a.2]) (fun a => a.2.length ≤ 63) (fun _ d => d = .bl true)

abbrev s_law : Stmt := top 55
def N_law : List Str := ["script", "draw", "told", "rest", "rule", "tail", "day", "late", "bake", "mine", "theirs", "grade", "first", "one", "number", "some", "many", "top", "last", "turn"]
def P_law : List Str := ["script"]
theorem sc_law : FnScope N_law P_law (defScope s_law) := ⟨rfl, rfl, rfl, by decide +kernel, rfl, by decide +kernel, by decide +kernel⟩
theorem ok_law {f : Addr} {fd : FuncData} (F : Fun K "law" "law" s_law f fd) (B : Bl K mg C A_Weights) (R_Rule : RuleS K mg C) (R_Weights : WeightsS K mg A_Weights) (E_SiltError : ErrS K mg "SiltError" X_SiltError) (E_BadDay : ErrS K mg "BadDay" X_BadDay) (E_BadWeights : ErrS K mg "BadWeights" X_BadWeights) (C__law_rule : Cal P w K mg base 6 "_law_rule" P__law_rule sp__law_rule) (C__law_tail : Cal P w K mg base 1 "_law_tail" P__law_tail sp__law_tail) (C_Rule : CalN P w K mg base C "Rule" 4 P_Rule___init__ (sp_Rule___init__ C)) (C__law_pick : Cal P w K mg base 3 "_law_pick" P__law_pick sp__law_pick) (C__law_take : Cal P w K mg base 2 "_law_take" P__law_take sp__law_take) (C__law_far : Cal P w K mg base 5 "_law_far" P__law_far sp__law_far) (C_made : Cal P w K mg base 6 "made" P_made (sp_made C)) (C__law_at : Cal P w K mg base 1 "_law_at" P__law_at sp__law_at) (C_digits : Cal P w K mg base 6 "digits" P_digits (sp_digits C)) (C_count : Cal P w K mg base 7 "count" P_count (sp_count C)) (C_work : Cal P w K mg base 6 "work" P_work (sp_work C)) (C_layers : Cal P w K mg base 8 "layers" P_layers (sp_layers C)) (C_baked : Cal P w K mg base 6 "baked" P_baked (sp_baked C)) (C_next_baked : Cal P w K mg base 8 "next_baked" P_next_baked (sp_next_baked C)) (C_place : Cal P w K mg base 8 "place" P_place (sp_place C)) (C_weighed : Cal P w K mg base 7 "weighed" P_weighed (sp_weighed C A_Weights)) (C_Weights : CalN P w K mg base A_Weights "Weights" 4 P_Weights___init__ (sp_Weights___init__ A_Weights)) (C_first_with : Cal P w K mg base 8 "first_with" P_first_with (sp_first_with C)) : FnOk P w K mg base (L2.CX P w) 20 f fd P_law (spOf K sp_law) := by
  refine fn_ok F sc_law len_spF (io := []) io_spF (fun cdv A outer sh H E hr =>
 (db_cons (ds_setO (i := 1) (show (_ : Nat) ∉ ([] : List Nat) by decide) sc_law.nd (by rfl) (.inr rfl) (do_lst (da_cons (de_var 0 (pv 0)) (da_cons de_int da_nil))))
 (db_cons (ds_set (i := 2) (show (_ : Nat) ∉ ([] : List Nat) by decide) sc_law.nd (by rfl) (.inl rfl) (de_c C__law_rule (hr.mono (by decide)) (by rfl) (takes_of rfl rfl rfl rfl) (dr_o (i := 1) (pv 1) dr_nil)))
 (db_cons (ds_set (i := 3) (show (_ : Nat) ∉ ([] : List Nat) by decide) sc_law.nd (by rfl) (.inl rfl) (de_c C__law_tail (hr.mono (by decide)) (by rfl) (takes_of rfl rfl rfl rfl) (dr_v (de_var 2 (pv 2)) dr_nil)))
 (db_cons (ds_par (i := 4) (j := 5) rfl sc_law.nd (by rfl) (by rfl) (by decide) (show (_ : Nat) ∉ ([] : List Nat) by decide) (show (_ : Nat) ∉ ([] : List Nat) by decide) (by rfl) (by rfl) (dn_v (de_n C_Rule (hr.mono (by decide)) (by rfl) (takes_of rfl rfl rfl rfl) (da_cons (de_ix (de_var 2 (pv 2)) de_int (fun _ _ => rfl)) (da_cons (de_ix (de_var 2 (pv 2)) de_int (fun _ _ => rfl)) da_nil))) (dn_v (de_n C_Rule (hr.mono (by decide)) (by rfl) (takes_of rfl rfl rfl rfl) (da_cons (de_ix (de_var 3 (pv 3)) de_int (fun _ _ => rfl)) (da_cons (de_ix (de_var 3 (pv 3)) de_int (fun _ _ => rfl)) da_nil))) dn_nil)))
 (db_cons (ds_set (i := 6) (show (_ : Nat) ∉ ([] : List Nat) by decide) sc_law.nd (by rfl) (.inl rfl) (de_c C__law_pick (hr.mono (by decide)) (by rfl) (takes_of rfl rfl rfl rfl) (dr_o (i := 1) (pv 1) (dr_v (do_lst (da_cons (de_c C__law_take (hr.mono (by decide)) (by rfl) (takes_of rfl rfl rfl rfl) (dr_o (i := 1) (pv 1) (dr_v de_int dr_nil))) (da_cons (de_c C__law_far (hr.mono (by decide)) (by rfl) (takes_of rfl rfl rfl rfl) (dr_o (i := 1) (pv 1) dr_nil)) da_nil))).de dr_nil))))
 (db_cons (ds_set (i := 7) (show (_ : Nat) ∉ ([] : List Nat) by decide) sc_law.nd (by rfl) (.inl rfl) (de_c C_made (hr.mono (by decide)) (by rfl) (takes_of rfl rfl rfl rfl) (dr_v (de_var 4 (pv 4)) (dr_v de_int (dr_v (de_var 6 (pv 6)) dr_nil)))))
 (db_cons (ds_set (i := 8) (show (_ : Nat) ∉ ([] : List Nat) by decide) sc_law.nd (by rfl) (.inr rfl) (de_ix (de_c C__law_at (hr.mono (by decide)) (by rfl) (takes_of rfl rfl rfl rfl) (dr_v (de_var 2 (pv 2)) (dr_v de_int dr_nil))) de_int (fun _ _ => rfl)))
 (db_cons (ds_if (dw_or (dt_cmp (op_neD (u64_of hr)) ne_s (do_sl (do_c C_digits (hr.mono (by decide)) (by rfl) (takes_of rfl rfl rfl rfl) (dr_v (de_var 4 (pv 4)) (dr_v (de_var 6 (pv 6)) dr_nil))).de (dp_some de_int) dp_none).de (do_c C_digits (hr.mono (by decide)) (by rfl) (takes_of rfl rfl rfl rfl) (dr_v (de_var 5 (pv 5)) (dr_v (de_var 7 (pv 7)) dr_nil))).de (nomark _)) (dw_or1 (dt_cmp (op_neD (u64_of hr)) ne_s (de_sub (de_c C_count (hr.mono (by decide)) (by rfl) (takes_of rfl rfl rfl rfl) (dr_v (de_var 4 (pv 4)) (dr_v (de_var 6 (pv 6)) dr_nil))) (de_ix (do_cat (do_c C_digits (hr.mono (by decide)) (by rfl) (takes_of rfl rfl rfl rfl) (dr_v (de_var 4 (pv 4)) (dr_v (de_var 6 (pv 6)) dr_nil))).de (do_lst (da_cons de_int da_nil)).de).de de_int (fun _ _ => rfl))) (de_c C_count (hr.mono (by decide)) (by rfl) (takes_of rfl rfl rfl rfl) (dr_v (de_var 5 (pv 5)) (dr_v (de_var 7 (pv 7)) dr_nil))) (nomark _)))).dt (db_one (ds_ret de_bl)) db_nil)
 (db_cons (ds_if (dt_cmp (op_neD (u64_of hr)) ne_s (de_c C_work (hr.mono (by decide)) (by rfl) (takes_of rfl rfl rfl rfl) (dr_v (de_var 4 (pv 4)) (dr_v (de_var 6 (pv 6)) dr_nil))) (de_add (de_mul (de_var 8 (pv 8)) (de_var 7 (pv 7))) (de_mul (de_var 8 (pv 8)) (de_c C_work (hr.mono (by decide)) (by rfl) (takes_of rfl rfl rfl rfl) (dr_v (de_var 5 (pv 5)) (dr_v (de_var 7 (pv 7)) dr_nil))))) (nomark _)) (db_one (ds_ret de_bl)) db_nil)
 (db_cons (ds_par (i := 9) (j := 10) rfl sc_law.nd (by rfl) (by rfl) (by decide) (show (_ : Nat) ∉ ([] : List Nat) by decide) (show (_ : Nat) ∉ ([] : List Nat) by decide) (by rfl) (by rfl) (dn_v (do_c C_layers (hr.mono (by decide)) (by rfl) (takes_of rfl rfl rfl rfl) (dr_v (de_var 4 (pv 4)) (dr_v (de_var 6 (pv 6)) dr_nil))).de (dn_v (do_c C_layers (hr.mono (by decide)) (by rfl) (takes_of rfl rfl rfl rfl) (dr_v (de_var 5 (pv 5)) (dr_v (de_var 7 (pv 7)) dr_nil))).de dn_nil)))
 (db_cons (ds_if (dt_cmp (op_neD (u64_of hr)) ne_s (do_comp (own := [("first", 12), ("last", 18), ("grade", 11)]) rfl sc_law.nd (di_list (de_var 10 (pv 10))) (blkOk_by (own := [("first", 12), ("last", 18), ("grade", 11)]) (N := N_law) (sc := defScope s_law) (by decide +kernel)) (show ∀ v ∈ ([("first", 12), ("last", 18), ("grade", 11)] : List (Str × Nat)).map (·.2), v ∉ ([] : List Nat) by decide) (fun _ _ _ _ _ => (dg_tup (n := 3) rfl (dgs_cons (dg_name (i := 12) (show (_ : Nat) ∉ ([] : List Nat) by decide) (by decide) sc_law.nd (by rfl) (.inl rfl)) (dgs_cons (dg_name (i := 18) (show (_ : Nat) ∉ ([] : List Nat) by decide) (by decide) sc_law.nd (by rfl) (.inl rfl)) (dgs_cons (dg_name (i := 11) (show (_ : Nat) ∉ ([] : List Nat) by decide) (by decide) sc_law.nd (by rfl) (.inl rfl)) dgs_nil))))) ht_nil (fun _ _ _ _ _ => (de_tup (da_cons (de_add (de_mul (de_sub (de_var 12 (pv 12)) de_int) (de_var 8 (pv 8))) de_int) (da_cons (de_mul (de_var 18 (pv 18)) (de_var 8 (pv 8))) (da_cons (de_add (de_var 11 (pv 11)) de_int) da_nil)))))).de (do_sl (de_var 9 (pv 9)) dp_none (dp_some (de_callB call_len len_s (by rfl) B.len (by rfl) (da_cons (de_var 10 (pv 10)) da_nil)))).de (nomark _)) (db_one (ds_ret de_bl)) db_nil)
 (db_cons (ds_if (dt_cmp (op_neD (u64_of hr)) ne_s (do_c C_baked (hr.mono (by decide)) (by rfl) (takes_of rfl rfl rfl rfl) (dr_v (de_var 4 (pv 4)) (dr_v (de_var 6 (pv 6)) dr_nil))).de (de_if (dt_cmp op_gt (ops_I0 fun _ _ _ => .bl _) (de_var 7 (pv 7)) (de_c C_made (hr.mono (by decide)) (by rfl) (takes_of rfl rfl rfl rfl) (dr_v (de_var 4 (pv 4)) (dr_v de_int (dr_v (de_callB (call_max2 rfl) max_s (by rfl) B.max (by rfl) (da_cons de_int (da_cons (de_sub (de_var 6 (pv 6)) de_int) da_nil))) dr_nil)))) (nomark _)) (do_cat (do_lst (da_cons de_int da_nil)).de (do_comp (own := [("grade", 11)]) rfl sc_law.nd (di_list (do_c C_baked (hr.mono (by decide)) (by rfl) (takes_of rfl rfl rfl rfl) (dr_v (de_var 5 (pv 5)) (dr_v (de_var 7 (pv 7)) dr_nil))).de) (blkOk_by (own := [("grade", 11)]) (N := N_law) (sc := defScope s_law) (by decide +kernel)) (show ∀ v ∈ ([("grade", 11)] : List (Str × Nat)).map (·.2), v ∉ ([] : List Nat) by decide) (fun _ _ _ _ _ => (dg_name (i := 11) (show (_ : Nat) ∉ ([] : List Nat) by decide) (by decide) sc_law.nd (by rfl) (.inl rfl))) ht_nil (fun _ _ _ _ _ => (de_add (de_var 11 (pv 11)) de_int))).de).de (do_lst da_nil).de) (nomark _)) (db_one (ds_ret de_bl)) db_nil)
 (db_cons (ds_for (vs := [11]) (passes_of rfl) rfl (di_range1 (by rfl) B.range (da_cons de_int da_nil)) (dg_name (i := 11) (show (_ : Nat) ∉ ([] : List Nat) by decide) (by decide) sc_law.nd (by rfl) (.inl rfl)) (db_cons (ds_set (i := 12) (show (_ : Nat) ∉ ([] : List Nat) by decide) sc_law.nd (by rfl) (.inl rfl) (de_c C_next_baked (hr.mono (by decide)) (by rfl) (takes_of rfl rfl rfl rfl) (dr_v (de_var 4 (pv 4)) (dr_v (de_add (de_var 11 (pv 11)) de_int) (dr_v (de_var 6 (pv 6)) dr_nil)))))
 (db_one (ds_if (dw_or (dt_cmp (op_neD (u64_of hr)) ne_s (de_var 12 (pv 12)) (de_c C_next_baked (hr.mono (by decide)) (by rfl) (takes_of rfl rfl rfl rfl) (dr_v (de_var 4 (pv 4)) (dr_v de_int (dr_v (de_sub (de_var 12 (pv 12)) de_int) dr_nil)))) (nomark _)) (dw_or1 (dt_cmp (op_neD (u64_of hr)) ne_s (de_c C_made (hr.mono (by decide)) (by rfl) (takes_of rfl rfl rfl rfl) (dr_v (de_var 4 (pv 4)) (dr_v (de_add (de_var 11 (pv 11)) de_int) (dr_v (de_var 6 (pv 6)) dr_nil)))) (de_c C_made (hr.mono (by decide)) (by rfl) (takes_of rfl rfl rfl rfl) (dr_v (de_var 5 (pv 5)) (dr_v (de_var 11 (pv 11)) (dr_v (de_var 7 (pv 7)) dr_nil)))) (nomark _)))).dt (db_one (ds_ret de_bl)) db_nil))))
 (db_cons (ds_set (i := 13) (show (_ : Nat) ∉ ([] : List Nat) by decide) sc_law.nd (by rfl) (.inl rfl) (de_add de_int (de_c C__law_take (hr.mono (by decide)) (by rfl) (takes_of rfl rfl rfl rfl) (dr_o (i := 1) (pv 1) (dr_v de_int dr_nil)))))
 (db_cons (ds_if (dt_cmp op_le (ops_I0 fun _ _ _ => .bl _) (de_var 13 (pv 13)) (de_var 6 (pv 6)) (nomark _)) (db_cons (ds_asg (vs := [11, 14]) (de_c C_place (hr.mono (by decide)) (by rfl) (takes_of rfl rfl rfl rfl) (dr_v (de_var 4 (pv 4)) (dr_v (de_var 13 (pv 13)) (dr_v (de_var 6 (pv 6)) dr_nil)))) (dg_tup (n := 2) rfl (dgs_cons (dg_name (i := 11) (show (_ : Nat) ∉ ([] : List Nat) by decide) (by decide) sc_law.nd (by rfl) (.inl rfl)) (dgs_cons (dg_name (i := 14) (show (_ : Nat) ∉ ([] : List Nat) by decide) (by decide) sc_law.nd (by rfl) (.inl rfl)) dgs_nil))))
 (db_one (ds_if (dw_and (dt_cmp op_gt (ops_I0 fun _ _ _ => .bl _) (de_var 11 (pv 11)) de_int (nomark _)) (dw_and1 (dt_cmp (op_neD (u64_of hr)) ne_s (de_c C_place (hr.mono (by decide)) (by rfl) (takes_of rfl rfl rfl rfl) (dr_v (de_var 5 (pv 5)) (dr_v (de_callTy call_int1 int_s (by rfl) B.int (by rfl) (da_cons (de_fdiv (de_sub (de_add (de_var 13 (pv 13)) (de_var 8 (pv 8))) de_int) (de_var 8 (pv 8))) da_nil)) (dr_v (de_var 7 (pv 7)) dr_nil)))) (de_tup (da_cons (de_sub (de_var 11 (pv 11)) de_int) (da_cons (de_var 14 (pv 14)) da_nil))) (nomark _)))).dt (db_one (ds_ret de_bl)) db_nil))) db_nil)
 (db_cons (ds_setLc (j := 15) (own := [("turn", 19)]) rfl sc_law.nd (by rfl) (by rfl) (show (_ : Nat) ∉ ([] : List Nat) by decide) (sw_true rfl rfl rfl (by decide +kernel)) (di_range1 (by rfl) B.range (da_cons de_int da_nil)) (blkOk_by (own := [("turn", 19)]) (N := N_law) (sc := defScope s_law) (by decide +kernel)) (show ∀ v ∈ ([("turn", 19)] : List (Str × Nat)).map (·.2), v ∉ ([] : List Nat) by decide) (fun _ _ _ _ _ => (dg_name (i := 19) (show (_ : Nat) ∉ ([] : List Nat) by decide) (by decide) sc_law.nd (by rfl) (.inl rfl))) ht_nil (fun _ _ _ _ _ => (de_sub (de_c C__law_take (hr.mono (by decide)) (by rfl) takes_no (dr_o (i := 1) (pv 1) (dr_v de_int dr_nil))) de_int)))
 (db_cons (ds_if (dt_cmp (op_neD (u64_of hr)) ne_s (de_c C_weighed (hr.mono (by decide)) (by rfl) (takes_of rfl rfl rfl rfl) (dr_v (de_var 4 (pv 4)) (dr_v (de_n C_Weights (hr.mono (by decide)) (by rfl) (takes_of rfl rfl rfl rfl) (da_cons (do_sl (de_var 15 (pv 15)) dp_none (dp_some de_int)).de (da_cons (do_sl (de_var 15 (pv 15)) (dp_some de_int) dp_none).de da_nil))) (dr_v (de_var 6 (pv 6)) dr_nil)))) (de_add (de_mul (de_ix (de_var 15 (pv 15)) de_int (fun _ _ => rfl)) (de_ix (do_cat (do_c C_digits (hr.mono (by decide)) (by rfl) (takes_of rfl rfl rfl rfl) (dr_v (de_var 4 (pv 4)) (dr_v (de_var 6 (pv 6)) dr_nil))).de (do_lst (da_cons de_int da_nil)).de).de de_int (fun _ _ => rfl))) (de_c C_weighed (hr.mono (by decide)) (by rfl) (takes_of rfl rfl rfl rfl) (dr_v (de_var 5 (pv 5)) (dr_v (de_n C_Weights (hr.mono (by decide)) (by rfl) (takes_of rfl rfl rfl rfl) (da_cons (do_sl (de_var 15 (pv 15)) (dp_some de_int) (dp_some de_int)).de (da_cons (do_sl (de_var 15 (pv 15)) (dp_some de_int) dp_none).de da_nil))) (dr_v (de_var 7 (pv 7)) dr_nil))))) (nomark _)) (db_one (ds_ret de_bl)) db_nil)
 (db_cons (ds_set (i := 16) (show (_ : Nat) ∉ ([] : List Nat) by decide) sc_law.nd (by rfl) (.inl rfl) (de_c C__law_take (hr.mono (by decide)) (by rfl) (takes_of rfl rfl rfl rfl) (dr_o (i := 1) (pv 1) (dr_v de_int dr_nil))))
 (db_cons (ds_set (i := 17) (show (_ : Nat) ∉ ([] : List Nat) by decide) sc_law.nd (by rfl) (.inl rfl) (de_sub (de_ix (de_c C__law_at (hr.mono (by decide)) (by rfl) (takes_of rfl rfl rfl rfl) (dr_v (de_var 2 (pv 2)) (dr_v de_int dr_nil))) de_int (fun _ _ => rfl)) de_int))
 (db_one (ds_ret (de_or (de_cmp op_le (ops_I0 fun _ _ _ => .bl _) (de_var 16 (pv 16)) (de_var 17 (pv 17)) (nomark _)) (de_one (de_cmp (op_eqD (u64_of hr)) eq_s (de_c C_first_with (hr.mono (by decide)) (by rfl) (takes_of rfl rfl rfl rfl) (dr_v (de_var 4 (pv 4)) (dr_v (de_var 16 (pv 16)) dr_nil))) (de_add (de_var 17 (pv 17)) (de_mul (de_var 8 (pv 8)) (de_c C_first_with (hr.mono (by decide)) (by rfl) (takes_of rfl rfl rfl rfl) (dr_v (de_var 5 (pv 5)) (dr_v (de_sub (de_var 16 (pv 16)) (de_var 17 (pv 17))) dr_nil))))) (nomark _)))))))))))))))))))))))))) ?_

  rintro ins Q R ⟨⟨b, s⟩, rfl, l, h1, k⟩
  dsimp only at h1 k
  refine seq_intro fun N hN => ?_
  dsimp only [sSeq, sIf, sSet, sSetO, sRet, sRetO, sNext, sExpr, wTest, w1, w2, wVar, valOf, Env.at, Env.put, wOD, wLst, wTup, waNil, waCons, waStar, wC, wCall, wCallB, wIf, DL.wTru, truD, wAnd, wOr, DL.wNot, wAndV, wOrV, wNotV, List.map, List.length, List.replicate, List.replicate_succ, List.replicate_zero, DL.putK, OD.toD, o2I, o2I0, addD, mulD, ixD, lenL, lenD, intL, absL, maxL, minL, divmodL, tupleL, blOf, intOf, lstD, tupD, seqOf, outOf, List.tail, Nat.reduceAdd, Nat.reduceSub, wrNil, wrV, wrO, wCallR, wCallRO, takeA, takeK, backA, isOwn, Sl.asD, Sl.asO, spK, noInsO, sAugIx, modL, wIxB, lstOf, wTruB, bor, sExtO, wRep, wSl, wSlB, wCat, wListOf, wpNone, wpSome, DL.isScal, sFor, wRng1, wRng2, gN, gTupD, gConsD, gNilD, sAsg, sPar, parK, wnNil, wnV, wnO, sRetN, ownL, wIsi, isiL, isiD, eqD, neD, wComp, sAug, wGet, isC, wFld, fldD, wMeth, insD, madeK, wrDef, wMut, sRetB, List.nil_append, List.cons_append, DL.D.ty, seqD, gFld, modI, wEnum, wRev1, sumL, allL, anyL, sFreeze, frK, wIter, wIterT, wMake, wBm, idxL, sTry, exmD, sRaise, wEqO, wChain, wDNew, sSetK, modK, dicOf, wDGetB, wDGet, dicD, wDInB, wDGet2B, sAugK, keyD, wOfK, wOfKB, fCopy, fKeys, fSorted, wSortL, wDc, wKeys, wItems, wVals, sForL, noEx, eqK, neK, eqT, neT, ltT, wRng3, kD, N_law] at k ⊢
  refine ⟨by decide, trivial, hN _ ?_⟩
  clear hN N
  refine seq_intro fun N hN => ?_
  dsimp only [sSeq, sIf, sSet, sSetO, sRet, sRetO, sNext, sExpr, wTest, w1, w2, wVar, valOf, Env.at, Env.put, wOD, wLst, wTup, waNil, waCons, waStar, wC, wCall, wCallB, wIf, DL.wTru, truD, wAnd, wOr, DL.wNot, wAndV, wOrV, wNotV, List.map, List.length, List.replicate, List.replicate_succ, List.replicate_zero, DL.putK, OD.toD, o2I, o2I0, addD, mulD, ixD, lenL, lenD, intL, absL, maxL, minL, divmodL, tupleL, blOf, intOf, lstD, tupD, seqOf, outOf, List.tail, Nat.reduceAdd, Nat.reduceSub, wrNil, wrV, wrO, wCallR, wCallRO, takeA, takeK, backA, isOwn, Sl.asD, Sl.asO, spK, noInsO, sAugIx, modL, wIxB, lstOf, wTruB, bor, sExtO, wRep, wSl, wSlB, wCat, wListOf, wpNone, wpSome, DL.isScal, sFor, wRng1, wRng2, gN, gTupD, gConsD, gNilD, sAsg, sPar, parK, wnNil, wnV, wnO, sRetN, ownL, wIsi, isiL, isiD, eqD, neD, wComp, sAug, wGet, isC, wFld, fldD, wMeth, insD, madeK, wrDef, wMut, sRetB, List.nil_append, List.cons_append, DL.D.ty, seqD, gFld, modI, wEnum, wRev1, sumL, allL, anyL, sFreeze, frK, wIter, wIterT, wMake, wBm, idxL, sTry, exmD, sRaise, wEqO, wChain, wDNew, sSetK, modK, dicOf, wDGetB, wDGet, dicD, wDInB, wDGet2B, sAugK, keyD, wOfK, wOfKB, fCopy, fKeys, fSorted, wSortL, wDc, wKeys, wItems, wVals, sForL, noEx, eqK, neK, eqT, neT, ltT, wRng3, kD, N_law]
  refine ⟨trivial, _, [], rfl, rfl, ⟨b, s, 0, rfl, h1, Int.le_refl _⟩, fun d ys hd => ?_⟩
  obtain ⟨y1, f, p, rfl, dr⟩ := hd
  refine hN _ ?_
  clear hN N
  refine seq_intro fun N hN => ?_
  dsimp only [sSeq, sIf, sSet, sSetO, sRet, sRetO, sNext, sExpr, wTest, w1, w2, wVar, valOf, Env.at, Env.put, wOD, wLst, wTup, waNil, waCons, waStar, wC, wCall, wCallB, wIf, DL.wTru, truD, wAnd, wOr, DL.wNot, wAndV, wOrV, wNotV, List.map, List.length, List.replicate, List.replicate_succ, List.replicate_zero, DL.putK, OD.toD, o2I, o2I0, addD, mulD, ixD, lenL, lenD, intL, absL, maxL, minL, divmodL, tupleL, blOf, intOf, lstD, tupD, seqOf, outOf, List.tail, Nat.reduceAdd, Nat.reduceSub, wrNil, wrV, wrO, wCallR, wCallRO, takeA, takeK, backA, isOwn, Sl.asD, Sl.asO, spK, noInsO, sAugIx, modL, wIxB, lstOf, wTruB, bor, sExtO, wRep, wSl, wSlB, wCat, wListOf, wpNone, wpSome, DL.isScal, sFor, wRng1, wRng2, gN, gTupD, gConsD, gNilD, sAsg, sPar, parK, wnNil, wnV, wnO, sRetN, ownL, wIsi, isiL, isiD, eqD, neD, wComp, sAug, wGet, isC, wFld, fldD, wMeth, insD, madeK, wrDef, wMut, sRetB, List.nil_append, List.cons_append, DL.D.ty, seqD, gFld, modI, wEnum, wRev1, sumL, allL, anyL, sFreeze, frK, wIter, wIterT, wMake, wBm, idxL, sTry, exmD, sRaise, wEqO, wChain, wDNew, sSetK, modK, dicOf, wDGetB, wDGet, dicD, wDInB, wDGet2B, sAugK, keyD, wOfK, wOfKB, fCopy, fKeys, fSorted, wSortL, wDc, wKeys, wItems, wVals, sForL, noEx, eqK, neK, eqT, neT, ltT, wRng3, kD, N_law]
  refine ⟨(f, p), rfl, rfl, ⟨dr.ne, by have := dr.fl; dsimp only; omega, by have := dr.pl; dsimp only; omega⟩, fun d hd => ?_⟩
  obtain ⟨f', p', rfl, t1, t2, t3, t4, t5⟩ := hd
  refine hN _ ?_
  clear hN N
  dsimp only at t2 t3 t4 t5
  have fl := dr.fl
  have pl := dr.pl
  have pv : ∀ x ∈ f ++ p, PairV x := fun x hx => by
    have := dr.ok x hx
    unfold PairOk at this
    exact ⟨by omega, by omega, by omega⟩
  refine seq_intro fun N hN => ?_
  dsimp only [sSeq, sIf, sSet, sSetO, sRet, sRetO, sNext, sExpr, wTest, w1, w2, wVar, valOf, Env.at, Env.put, wOD, wLst, wTup, waNil, waCons, waStar, wC, wCall, wCallB, wIf, DL.wTru, truD, wAnd, wOr, DL.wNot, wAndV, wOrV, wNotV, List.map, List.length, List.replicate, List.replicate_succ, List.replicate_zero, DL.putK, OD.toD, o2I, o2I0, addD, mulD, ixD, lenL, lenD, intL, absL, maxL, minL, divmodL, tupleL, blOf, intOf, lstD, tupD, seqOf, outOf, List.tail, Nat.reduceAdd, Nat.reduceSub, wrNil, wrV, wrO, wCallR, wCallRO, takeA, takeK, backA, isOwn, Sl.asD, Sl.asO, spK, noInsO, sAugIx, modL, wIxB, lstOf, wTruB, bor, sExtO, wRep, wSl, wSlB, wCat, wListOf, wpNone, wpSome, DL.isScal, sFor, wRng1, wRng2, gN, gTupD, gConsD, gNilD, sAsg, sPar, parK, wnNil, wnV, wnO, sRetN, ownL, wIsi, isiL, isiD, eqD, neD, wComp, sAug, wGet, isC, wFld, fldD, wMeth, insD, madeK, wrDef, wMut, sRetB, List.nil_append, List.cons_append, DL.D.ty, seqD, gFld, modI, wEnum, wRev1, sumL, allL, anyL, sFreeze, frK, wIter, wIterT, wMake, wBm, idxL, sTry, exmD, sRaise, wEqO, wChain, wDNew, sSetK, modK, dicOf, wDGetB, wDGet, dicD, wDInB, wDGet2B, sAugK, keyD, wOfK, wOfKB, fCopy, fKeys, fSorted, wSortL, wDc, wKeys, wItems, wVals, sForL, noEx, eqK, neK, eqT, neT, ltT, wRng3, kD, N_law, ruleL]
  refine ⟨_, rfl, _, rfl, fun dx => ⟨dx, ((true, f), true, p), rfl, rfl, ⟨by dsimp only; omega, dr.ne, by dsimp only; omega, pv⟩, fun ns xs hd => ?_⟩⟩
  obtain ⟨r, rfl, rfl, hr⟩ := hd
  refine ⟨rfl, rfl, ?_⟩
  refine ⟨_, rfl, _, rfl, fun dx => ⟨dx, ((true, f'), true, p'), rfl, rfl, ⟨by dsimp only; omega, t1, by dsimp only; omega, fun x hx => pv x (t5 x hx)⟩, fun ns xs hd => ?_⟩⟩
  obtain ⟨t, rfl, rfl, ht⟩ := hd
  refine ⟨rfl, rfl, ?_⟩
  dsimp only at hr ht
  have T : TailOf r t := fun g => by rw [ht, hr, t4]
  refine ⟨rfl, hN _ ?_⟩
  clear hN N
  have lim : (2 : Int) ^ 100 < 2 ^ 1000 := by decide +kernel
  -- the day
  refine seq_intro fun N hN => ?_
  dsimp only [sSeq, sIf, sSet, sSetO, sRet, sRetO, sNext, sExpr, wTest, w1, w2, wVar, valOf, Env.at, Env.put, wOD, wLst, wTup, waNil, waCons, waStar, wC, wCall, wCallB, wIf, DL.wTru, truD, wAnd, wOr, DL.wNot, wAndV, wOrV, wNotV, List.map, List.length, List.replicate, List.replicate_succ, List.replicate_zero, DL.putK, OD.toD, o2I, o2I0, addD, mulD, ixD, lenL, lenD, intL, absL, maxL, minL, divmodL, tupleL, blOf, intOf, lstD, tupD, seqOf, outOf, List.tail, Nat.reduceAdd, Nat.reduceSub, wrNil, wrV, wrO, wCallR, wCallRO, takeA, takeK, backA, isOwn, Sl.asD, Sl.asO, spK, noInsO, sAugIx, modL, wIxB, lstOf, wTruB, bor, sExtO, wRep, wSl, wSlB, wCat, wListOf, wpNone, wpSome, DL.isScal, sFor, wRng1, wRng2, gN, gTupD, gConsD, gNilD, sAsg, sPar, parK, wnNil, wnV, wnO, sRetN, ownL, wIsi, isiL, isiD, eqD, neD, wComp, sAug, wGet, isC, wFld, fldD, wMeth, insD, madeK, wrDef, wMut, sRetB, List.nil_append, List.cons_append, DL.D.ty, seqD, gFld, modI, wEnum, wRev1, sumL, allL, anyL, sFreeze, frK, wIter, wIterT, wMake, wBm, idxL, sTry, exmD, sRaise, wEqO, wChain, wDNew, sSetK, modK, dicOf, wDGetB, wDGet, dicD, wDInB, wDGet2B, sAugK, keyD, wOfK, wOfKB, fCopy, fKeys, fSorted, wSortL, wDc, wKeys, wItems, wVals, sForL, noEx, eqK, neK, eqT, neT, ltT, wRng3, kD, N_law]
  refine ⟨trivial, trivial, _, [.int 300], rfl, rfl, ⟨y1, _, rfl, by omega⟩, fun d ys hd => ?_⟩
  obtain ⟨y2, m, c, e, rfl, c0, c1⟩ := hd
  cases e
  refine ⟨trivial, _, [], rfl, rfl, y2, fun d ys hd => ?_⟩
  obtain ⟨y3, n, rfl, n0, n1⟩ := hd
  refine ⟨by decide, _, [.lst [.int c, .int n]], rfl, rfl, ⟨y3, _, rfl, by simp⟩, fun d ys hd => ?_⟩
  obtain ⟨y4, zs, e, hz⟩ := hd
  cases e
  obtain ⟨day, rfl, day0, dayF⟩ : ∃ day : Int, d = .int day ∧ 0 ≤ day ∧ day < 2 ^ 100 := by
    simp only [List.mem_cons, List.not_mem_nil, or_false] at hz
    rcases hz with rfl | rfl
    · exact ⟨_, rfl, c0, by omega⟩
    · exact ⟨_, rfl, n0, by omega⟩
  have day1 : day < 2 ^ 1000 := by omega
  refine hN _ ?_
  clear hN N hz c0 c1 n0 n1 y2 y3
  -- late, bake
  refine seq_intro fun N hN => ?_
  dsimp only [sSeq, sIf, sSet, sSetO, sRet, sRetO, sNext, sExpr, wTest, w1, w2, wVar, valOf, Env.at, Env.put, wOD, wLst, wTup, waNil, waCons, waStar, wC, wCall, wCallB, wIf, DL.wTru, truD, wAnd, wOr, DL.wNot, wAndV, wOrV, wNotV, List.map, List.length, List.replicate, List.replicate_succ, List.replicate_zero, DL.putK, OD.toD, o2I, o2I0, addD, mulD, ixD, lenL, lenD, intL, absL, maxL, minL, divmodL, tupleL, blOf, intOf, lstD, tupD, seqOf, outOf, List.tail, Nat.reduceAdd, Nat.reduceSub, wrNil, wrV, wrO, wCallR, wCallRO, takeA, takeK, backA, isOwn, Sl.asD, Sl.asO, spK, noInsO, sAugIx, modL, wIxB, lstOf, wTruB, bor, sExtO, wRep, wSl, wSlB, wCat, wListOf, wpNone, wpSome, DL.isScal, sFor, wRng1, wRng2, gN, gTupD, gConsD, gNilD, sAsg, sPar, parK, wnNil, wnV, wnO, sRetN, ownL, wIsi, isiL, isiD, eqD, neD, wComp, sAug, wGet, isC, wFld, fldD, wMeth, insD, madeK, wrDef, wMut, sRetB, List.nil_append, List.cons_append, DL.D.ty, seqD, gFld, modI, wEnum, wRev1, sumL, allL, anyL, sFreeze, frK, wIter, wIterT, wMake, wBm, idxL, sTry, exmD, sRaise, wEqO, wChain, wDNew, sSetK, modK, dicOf, wDGetB, wDGet, dicD, wDInB, wDGet2B, sAugK, keyD, wOfK, wOfKB, fCopy, fKeys, fSorted, wSortL, wDc, wKeys, wItems, wVals, sForL, noEx, eqK, neK, eqT, neT, ltT, wRng3, kD, N_law]
  refine ⟨(r, 1, day), rfl, rfl, day0, fun d hd => ?_⟩
  subst hd
  refine hN _ ?_
  clear hN N
  dsimp only
  have late0 := madeR_nn r 1 day0
  have late1 := madeR_le r 1 day0
  have digB := digs_behind T day0
  have wrkB := work_behind T day0
  refine seq_intro fun N hN => ?_
  dsimp only [sSeq, sIf, sSet, sSetO, sRet, sRetO, sNext, sExpr, wTest, w1, w2, wVar, valOf, Env.at, Env.put, wOD, wLst, wTup, waNil, waCons, waStar, wC, wCall, wCallB, wIf, DL.wTru, truD, wAnd, wOr, DL.wNot, wAndV, wOrV, wNotV, List.map, List.length, List.replicate, List.replicate_succ, List.replicate_zero, DL.putK, OD.toD, o2I, o2I0, addD, mulD, ixD, lenL, lenD, intL, absL, maxL, minL, divmodL, tupleL, blOf, intOf, lstD, tupD, seqOf, outOf, List.tail, Nat.reduceAdd, Nat.reduceSub, wrNil, wrV, wrO, wCallR, wCallRO, takeA, takeK, backA, isOwn, Sl.asD, Sl.asO, spK, noInsO, sAugIx, modL, wIxB, lstOf, wTruB, bor, sExtO, wRep, wSl, wSlB, wCat, wListOf, wpNone, wpSome, DL.isScal, sFor, wRng1, wRng2, gN, gTupD, gConsD, gNilD, sAsg, sPar, parK, wnNil, wnV, wnO, sRetN, ownL, wIsi, isiL, isiD, eqD, neD, wComp, sAug, wGet, isC, wFld, fldD, wMeth, insD, madeK, wrDef, wMut, sRetB, List.nil_append, List.cons_append, DL.D.ty, seqD, gFld, modI, wEnum, wRev1, sumL, allL, anyL, sFreeze, frK, wIter, wIterT, wMake, wBm, idxL, sTry, exmD, sRaise, wEqO, wChain, wDNew, sSetK, modK, dicOf, wDGetB, wDGet, dicD, wDInB, wDGet2B, sAugK, keyD, wOfK, wOfKB, fCopy, fKeys, fSorted, wSortL, wDc, wKeys, wItems, wVals, sForL, noEx, eqK, neK, eqT, neT, ltT, wRng3, kD, N_law]
  refine ⟨((f, p), 0), rfl, rfl, dr.ne, fun d hd => ?_⟩
  subst hd
  dsimp only
  rw [← hr 0]
  refine ⟨.int (r.at 0).2, rfl, hN _ ?_⟩
  clear hN N
  have ok := r.at_ok 0
  have o1 := ok.lo; have o2 := ok.le; have o3 := ok.hi
  have day2 : madeR r 1 day < 2 ^ 1000 := by omega
  obtain ⟨d0, at0, d00, d01, dd⟩ : ∃ d0 : Int, atI ((digsR r 0 day).map D.int ++ [.int 0]) 0 = some (.int d0) ∧ 0 ≤ d0 ∧ d0 < 12 ∧ (digsR r 0 day = d0 :: digsR t 0 (madeR r 1 day) ∨ digsR r 0 day = [] ∧ d0 = 0 ∧ digsR t 0 (madeR r 1 day) = []) := by
    have hin : ∀ d ∈ digsR r 0 day, 0 ≤ d ∧ d < 12 := digs_in r _ _ _ day0
    cases e : digsR r 0 day with
    | nil =>
      rw [e] at digB
      exact ⟨0, rfl, by decide, by decide, .inr ⟨rfl, rfl, digB.symm⟩⟩
    | cons d ds =>
      rw [e] at digB hin
      have := hin d List.mem_cons_self
      exact ⟨d, atI_nn (xs := (d :: ds).map D.int ++ [.int 0]) (i := 0) (by simp), this.1, this.2, .inl (by rw [← digB]; rfl)⟩
  -- digits
  have ec : cut ((digsR r 0 day).map D.int) (some 1) none = (digsR t 0 (madeR r 1 day)).map D.int := by
    rw [cut_from _ (by decide), show (1 : Int).toNat = 1 from rfl, ← List.map_drop, digB]
  have ei : ∀ xs : List Int, D.eqv (.lst (xs.map .int)) (.lst (xs.map .int)) = true := fun xs => by
    have := eqv_ints xs xs
    rw [decide_eq_true rfl] at this
    exact this
  have e1 : ∀ x : Int, D.eqv (.int x) (.int x) = true := fun x => by simp [D.eqv, D.pd, PyData.eqv]
  refine seq_intro fun N hN => ?_
  dsimp only [sSeq, sIf, sSet, sSetO, sRet, sRetO, sNext, sExpr, wTest, w1, w2, wVar, valOf, Env.at, Env.put, wOD, wLst, wTup, waNil, waCons, waStar, wC, wCall, wCallB, wIf, DL.wTru, truD, wAnd, wOr, DL.wNot, wAndV, wOrV, wNotV, List.map, List.length, List.replicate, List.replicate_succ, List.replicate_zero, DL.putK, OD.toD, o2I, o2I0, addD, mulD, ixD, lenL, lenD, intL, absL, maxL, minL, divmodL, tupleL, blOf, intOf, lstD, tupD, seqOf, outOf, List.tail, Nat.reduceAdd, Nat.reduceSub, wrNil, wrV, wrO, wCallR, wCallRO, takeA, takeK, backA, isOwn, Sl.asD, Sl.asO, spK, noInsO, sAugIx, modL, wIxB, lstOf, wTruB, bor, sExtO, wRep, wSl, wSlB, wCat, wListOf, wpNone, wpSome, DL.isScal, sFor, wRng1, wRng2, gN, gTupD, gConsD, gNilD, sAsg, sPar, parK, wnNil, wnV, wnO, sRetN, ownL, wIsi, isiL, isiD, eqD, neD, wComp, sAug, wGet, isC, wFld, fldD, wMeth, insD, madeK, wrDef, wMut, sRetB, List.nil_append, List.cons_append, DL.D.ty, seqD, gFld, modI, wEnum, wRev1, sumL, allL, anyL, sFreeze, frK, wIter, wIterT, wMake, wBm, idxL, sTry, exmD, sRaise, wEqO, wChain, wDNew, sSetK, modK, dicOf, wDGetB, wDGet, dicD, wDInB, wDGet2B, sAugK, keyD, wOfK, wOfKB, fCopy, fKeys, fSorted, wSortL, wDc, wKeys, wItems, wVals, sForL, noEx, eqK, neK, eqT, neT, ltT, wRng3, kD, N_law]
  refine ⟨(r, day), rfl, rfl, ⟨day0, day1⟩, fun xs hd => ?_⟩
  subst hd
  refine ⟨trivial, (t, madeR r 1 day), rfl, rfl, ⟨late0, day2⟩, fun xs hd => ?_⟩
  subst hd
  dsimp only [sSeq, sIf, sSet, sSetO, sRet, sRetO, sNext, sExpr, wTest, w1, w2, wVar, valOf, Env.at, Env.put, wOD, wLst, wTup, waNil, waCons, waStar, wC, wCall, wCallB, wIf, DL.wTru, truD, wAnd, wOr, DL.wNot, wAndV, wOrV, wNotV, List.map, List.length, List.replicate, List.replicate_succ, List.replicate_zero, DL.putK, OD.toD, o2I, o2I0, addD, mulD, ixD, lenL, lenD, intL, absL, maxL, minL, divmodL, tupleL, blOf, intOf, lstD, tupD, seqOf, outOf, List.tail, Nat.reduceAdd, Nat.reduceSub, wrNil, wrV, wrO, wCallR, wCallRO, takeA, takeK, backA, isOwn, Sl.asD, Sl.asO, spK, noInsO, sAugIx, modL, wIxB, lstOf, wTruB, bor, sExtO, wRep, wSl, wSlB, wCat, wListOf, wpNone, wpSome, DL.isScal, sFor, wRng1, wRng2, gN, gTupD, gConsD, gNilD, sAsg, sPar, parK, wnNil, wnV, wnO, sRetN, ownL, wIsi, isiL, isiD, eqD, neD, wComp, sAug, wGet, isC, wFld, fldD, wMeth, insD, madeK, wrDef, wMut, sRetB, List.nil_append, List.cons_append, DL.D.ty, seqD, gFld, modI, wEnum, wRev1, sumL, allL, anyL, sFreeze, frK, wIter, wIterT, wMake, wBm, idxL, sTry, exmD, sRaise, wEqO, wChain, wDNew, sSetK, modK, dicOf, wDGetB, wDGet, dicD, wDInB, wDGet2B, sAugK, keyD, wOfK, wOfKB, fCopy, fKeys, fSorted, wSortL, wDc, wKeys, wItems, wVals, sForL, noEx, eqK, neK, eqT, neT, ltT, wRng3, kD, N_law]
  rw [ec, ei]
  refine ⟨trivial, (Cmp.ints _).ok, (Cmp.ints _).ok, fun z => by (cases z), fun _ => ?_⟩
  refine ⟨(r, day), rfl, rfl, ⟨day0, day1⟩, fun d hd => ?_⟩
  subst hd
  refine ⟨(r, day), rfl, rfl, ⟨day0, day1⟩, fun xs hd => ?_⟩
  subst hd
  have hlen : (digsR r 0 day).length ≤ 1000 := digs_len r _ _ _ _ day0 day1
  refine ⟨trivial, by decide, ?_, _, at0, ?_⟩
  · rw [List.length_map]
    show (digsR r 0 day).length + 1 ≤ 16777216
    omega
  refine ⟨(t, madeR r 1 day), rfl, rfl, ⟨late0, day2⟩, fun d hd => ?_⟩
  subst hd
  dsimp only [sSeq, sIf, sSet, sSetO, sRet, sRetO, sNext, sExpr, wTest, w1, w2, wVar, valOf, Env.at, Env.put, wOD, wLst, wTup, waNil, waCons, waStar, wC, wCall, wCallB, wIf, DL.wTru, truD, wAnd, wOr, DL.wNot, wAndV, wOrV, wNotV, List.map, List.length, List.replicate, List.replicate_succ, List.replicate_zero, DL.putK, OD.toD, o2I, o2I0, addD, mulD, ixD, lenL, lenD, intL, absL, maxL, minL, divmodL, tupleL, blOf, intOf, lstD, tupD, seqOf, outOf, List.tail, Nat.reduceAdd, Nat.reduceSub, wrNil, wrV, wrO, wCallR, wCallRO, takeA, takeK, backA, isOwn, Sl.asD, Sl.asO, spK, noInsO, sAugIx, modL, wIxB, lstOf, wTruB, bor, sExtO, wRep, wSl, wSlB, wCat, wListOf, wpNone, wpSome, DL.isScal, sFor, wRng1, wRng2, gN, gTupD, gConsD, gNilD, sAsg, sPar, parK, wnNil, wnV, wnO, sRetN, ownL, wIsi, isiL, isiD, eqD, neD, wComp, sAug, wGet, isC, wFld, fldD, wMeth, insD, madeK, wrDef, wMut, sRetB, List.nil_append, List.cons_append, DL.D.ty, seqD, gFld, modI, wEnum, wRev1, sumL, allL, anyL, sFreeze, frK, wIter, wIterT, wMake, wBm, idxL, sTry, exmD, sRaise, wEqO, wChain, wDNew, sSetK, modK, dicOf, wDGetB, wDGet, dicD, wDInB, wDGet2B, sAugK, keyD, wOfK, wOfKB, fCopy, fKeys, fSorted, wSortL, wDc, wKeys, wItems, wVals, sForL, noEx, eqK, neK, eqT, neT, ltT, wRng3, kD, N_law]
  have sums : (digsR r 0 day).sum - d0 = (digsR t 0 (madeR r 1 day)).sum := by
    rcases dd with e | ⟨e, e2, e3⟩
    · rw [e, List.sum_cons]; omega
    · rw [e, e2, e3]; rfl
  rw [sums, e1]
  refine ⟨(Cmp.int _).ok, (Cmp.int _).ok, fun z => by (cases z), fun _ => hN _ ?_⟩
  clear hN N
  -- work
  refine seq_intro fun N hN => ?_
  dsimp only [sSeq, sIf, sSet, sSetO, sRet, sRetO, sNext, sExpr, wTest, w1, w2, wVar, valOf, Env.at, Env.put, wOD, wLst, wTup, waNil, waCons, waStar, wC, wCall, wCallB, wIf, DL.wTru, truD, wAnd, wOr, DL.wNot, wAndV, wOrV, wNotV, List.map, List.length, List.replicate, List.replicate_succ, List.replicate_zero, DL.putK, OD.toD, o2I, o2I0, addD, mulD, ixD, lenL, lenD, intL, absL, maxL, minL, divmodL, tupleL, blOf, intOf, lstD, tupD, seqOf, outOf, List.tail, Nat.reduceAdd, Nat.reduceSub, wrNil, wrV, wrO, wCallR, wCallRO, takeA, takeK, backA, isOwn, Sl.asD, Sl.asO, spK, noInsO, sAugIx, modL, wIxB, lstOf, wTruB, bor, sExtO, wRep, wSl, wSlB, wCat, wListOf, wpNone, wpSome, DL.isScal, sFor, wRng1, wRng2, gN, gTupD, gConsD, gNilD, sAsg, sPar, parK, wnNil, wnV, wnO, sRetN, ownL, wIsi, isiL, isiD, eqD, neD, wComp, sAug, wGet, isC, wFld, fldD, wMeth, insD, madeK, wrDef, wMut, sRetB, List.nil_append, List.cons_append, DL.D.ty, seqD, gFld, modI, wEnum, wRev1, sumL, allL, anyL, sFreeze, frK, wIter, wIterT, wMake, wBm, idxL, sTry, exmD, sRaise, wEqO, wChain, wDNew, sSetK, modK, dicOf, wDGetB, wDGet, dicD, wDInB, wDGet2B, sAugK, keyD, wOfK, wOfKB, fCopy, fKeys, fSorted, wSortL, wDc, wKeys, wItems, wVals, sForL, noEx, eqK, neK, eqT, neT, ltT, wRng3, kD, N_law]
  refine ⟨(r, day), rfl, rfl, ⟨day0, day1⟩, fun d hd => ?_⟩
  subst hd
  dsimp only [sSeq, sIf, sSet, sSetO, sRet, sRetO, sNext, sExpr, wTest, w1, w2, wVar, valOf, Env.at, Env.put, wOD, wLst, wTup, waNil, waCons, waStar, wC, wCall, wCallB, wIf, DL.wTru, truD, wAnd, wOr, DL.wNot, wAndV, wOrV, wNotV, List.map, List.length, List.replicate, List.replicate_succ, List.replicate_zero, DL.putK, OD.toD, o2I, o2I0, addD, mulD, ixD, lenL, lenD, intL, absL, maxL, minL, divmodL, tupleL, blOf, intOf, lstD, tupD, seqOf, outOf, List.tail, Nat.reduceAdd, Nat.reduceSub, wrNil, wrV, wrO, wCallR, wCallRO, takeA, takeK, backA, isOwn, Sl.asD, Sl.asO, spK, noInsO, sAugIx, modL, wIxB, lstOf, wTruB, bor, sExtO, wRep, wSl, wSlB, wCat, wListOf, wpNone, wpSome, DL.isScal, sFor, wRng1, wRng2, gN, gTupD, gConsD, gNilD, sAsg, sPar, parK, wnNil, wnV, wnO, sRetN, ownL, wIsi, isiL, isiD, eqD, neD, wComp, sAug, wGet, isC, wFld, fldD, wMeth, insD, madeK, wrDef, wMut, sRetB, List.nil_append, List.cons_append, DL.D.ty, seqD, gFld, modI, wEnum, wRev1, sumL, allL, anyL, sFreeze, frK, wIter, wIterT, wMake, wBm, idxL, sTry, exmD, sRaise, wEqO, wChain, wDNew, sSetK, modK, dicOf, wDGetB, wDGet, dicD, wDInB, wDGet2B, sAugK, keyD, wOfK, wOfKB, fCopy, fKeys, fSorted, wSortL, wDc, wKeys, wItems, wVals, sForL, noEx, eqK, neK, eqT, neT, ltT, wRng3, kD, N_law]
  refine ⟨mulOk_l (by omega), (t, madeR r 1 day), rfl, rfl, ⟨late0, day2⟩, fun d hd => ?_⟩
  subst hd
  dsimp only [sSeq, sIf, sSet, sSetO, sRet, sRetO, sNext, sExpr, wTest, w1, w2, wVar, valOf, Env.at, Env.put, wOD, wLst, wTup, waNil, waCons, waStar, wC, wCall, wCallB, wIf, DL.wTru, truD, wAnd, wOr, DL.wNot, wAndV, wOrV, wNotV, List.map, List.length, List.replicate, List.replicate_succ, List.replicate_zero, DL.putK, OD.toD, o2I, o2I0, addD, mulD, ixD, lenL, lenD, intL, absL, maxL, minL, divmodL, tupleL, blOf, intOf, lstD, tupD, seqOf, outOf, List.tail, Nat.reduceAdd, Nat.reduceSub, wrNil, wrV, wrO, wCallR, wCallRO, takeA, takeK, backA, isOwn, Sl.asD, Sl.asO, spK, noInsO, sAugIx, modL, wIxB, lstOf, wTruB, bor, sExtO, wRep, wSl, wSlB, wCat, wListOf, wpNone, wpSome, DL.isScal, sFor, wRng1, wRng2, gN, gTupD, gConsD, gNilD, sAsg, sPar, parK, wnNil, wnV, wnO, sRetN, ownL, wIsi, isiL, isiD, eqD, neD, wComp, sAug, wGet, isC, wFld, fldD, wMeth, insD, madeK, wrDef, wMut, sRetB, List.nil_append, List.cons_append, DL.D.ty, seqD, gFld, modI, wEnum, wRev1, sumL, allL, anyL, sFreeze, frK, wIter, wIterT, wMake, wBm, idxL, sTry, exmD, sRaise, wEqO, wChain, wDNew, sSetK, modK, dicOf, wDGetB, wDGet, dicD, wDInB, wDGet2B, sAugK, keyD, wOfK, wOfKB, fCopy, fKeys, fSorted, wSortL, wDc, wKeys, wItems, wVals, sForL, noEx, eqK, neK, eqT, neT, ltT, wRng3, kD, N_law]
  rw [← wrkB, e1]
  refine ⟨mulOk_l (by omega), (Cmp.int _).ok, (Cmp.int _).ok, fun z => by (cases z), fun _ => hN _ ?_⟩
  clear hN N
  -- layers
  refine seq_intro fun N hN => ?_
  dsimp only [sSeq, sIf, sSet, sSetO, sRet, sRetO, sNext, sExpr, wTest, w1, w2, wVar, valOf, Env.at, Env.put, wOD, wLst, wTup, waNil, waCons, waStar, wC, wCall, wCallB, wIf, DL.wTru, truD, wAnd, wOr, DL.wNot, wAndV, wOrV, wNotV, List.map, List.length, List.replicate, List.replicate_succ, List.replicate_zero, DL.putK, OD.toD, o2I, o2I0, addD, mulD, ixD, lenL, lenD, intL, absL, maxL, minL, divmodL, tupleL, blOf, intOf, lstD, tupD, seqOf, outOf, List.tail, Nat.reduceAdd, Nat.reduceSub, wrNil, wrV, wrO, wCallR, wCallRO, takeA, takeK, backA, isOwn, Sl.asD, Sl.asO, spK, noInsO, sAugIx, modL, wIxB, lstOf, wTruB, bor, sExtO, wRep, wSl, wSlB, wCat, wListOf, wpNone, wpSome, DL.isScal, sFor, wRng1, wRng2, gN, gTupD, gConsD, gNilD, sAsg, sPar, parK, wnNil, wnV, wnO, sRetN, ownL, wIsi, isiL, isiD, eqD, neD, wComp, sAug, wGet, isC, wFld, fldD, wMeth, insD, madeK, wrDef, wMut, sRetB, List.nil_append, List.cons_append, DL.D.ty, seqD, gFld, modI, wEnum, wRev1, sumL, allL, anyL, sFreeze, frK, wIter, wIterT, wMake, wBm, idxL, sTry, exmD, sRaise, wEqO, wChain, wDNew, sSetK, modK, dicOf, wDGetB, wDGet, dicD, wDInB, wDGet2B, sAugK, keyD, wOfK, wOfKB, fCopy, fKeys, fSorted, wSortL, wDc, wKeys, wItems, wVals, sForL, noEx, eqK, neK, eqT, neT, ltT, wRng3, kD, N_law]
  refine ⟨(r, day), rfl, rfl, ⟨day0, day1⟩, fun xs hd => ?_⟩
  subst hd
  refine ⟨trivial, (t, madeR r 1 day), rfl, rfl, ⟨late0, day2⟩, fun xs hd => ?_⟩
  subst hd
  dsimp only [sSeq, sIf, sSet, sSetO, sRet, sRetO, sNext, sExpr, wTest, w1, w2, wVar, valOf, Env.at, Env.put, wOD, wLst, wTup, waNil, waCons, waStar, wC, wCall, wCallB, wIf, DL.wTru, truD, wAnd, wOr, DL.wNot, wAndV, wOrV, wNotV, List.map, List.length, List.replicate, List.replicate_succ, List.replicate_zero, DL.putK, OD.toD, o2I, o2I0, addD, mulD, ixD, lenL, lenD, intL, absL, maxL, minL, divmodL, tupleL, blOf, intOf, lstD, tupD, seqOf, outOf, List.tail, Nat.reduceAdd, Nat.reduceSub, wrNil, wrV, wrO, wCallR, wCallRO, takeA, takeK, backA, isOwn, Sl.asD, Sl.asO, spK, noInsO, sAugIx, modL, wIxB, lstOf, wTruB, bor, sExtO, wRep, wSl, wSlB, wCat, wListOf, wpNone, wpSome, DL.isScal, sFor, wRng1, wRng2, gN, gTupD, gConsD, gNilD, sAsg, sPar, parK, wnNil, wnV, wnO, sRetN, ownL, wIsi, isiL, isiD, eqD, neD, wComp, sAug, wGet, isC, wFld, fldD, wMeth, insD, madeK, wrDef, wMut, sRetB, List.nil_append, List.cons_append, DL.D.ty, seqD, gFld, modI, wEnum, wRev1, sumL, allL, anyL, sFreeze, frK, wIter, wIterT, wMake, wBm, idxL, sTry, exmD, sRaise, wEqO, wChain, wDNew, sSetK, modK, dicOf, wDGetB, wDGet, dicD, wDInB, wDGet2B, sAugK, keyD, wOfK, wOfKB, fCopy, fKeys, fSorted, wSortL, wDc, wKeys, wItems, wVals, sForL, noEx, eqK, neK, eqT, neT, ltT, wRng3, kD, N_law]
  rw [laysD_eq, laysD_eq]
  refine ⟨trivial, rfl, hN _ ?_⟩
  clear hN N
  have layB : (laysT r (digsR r 0 day) (digsR r 0 day).length 1).take (laysT t (digsR t 0 (madeR r 1 day)) (digsR t 0 (madeR r 1 day)).length 1).length = (laysT t (digsR t 0 (madeR r 1 day)) (digsR t 0 (madeR r 1 day)).length 1).map (liftT (r.at 0).2) := by
    rcases dd with e | ⟨e, e2, e3⟩
    · rw [e]; exact lays_behind T _ _
    · rw [e, e3]; rfl
  have lenB : (laysT t (digsR t 0 (madeR r 1 day)) (digsR t 0 (madeR r 1 day)).length 1).length ≤ 12000 := by
    have a1 := laysT_len t (digsR t 0 (madeR r 1 day)) (fun d hd => (digs_in t _ _ _ late0 d hd).2) (digsR t 0 (madeR r 1 day)).length 1
    have a2 : (digsR t 0 (madeR r 1 day)).length ≤ 1000 := digs_len t _ _ _ _ late0 day2
    omega
  generalize laysT r (digsR r 0 day) (digsR r 0 day).length 1 = L1 at layB ⊢
  generalize laysT t (digsR t 0 (madeR r 1 day)) (digsR t 0 (madeR r 1 day)).length 1 = L2 at layB lenB ⊢
  refine seq_intro fun N hN => ?_
  dsimp only [sSeq, sIf, sSet, sSetO, sRet, sRetO, sNext, sExpr, wTest, w1, w2, wVar, valOf, Env.at, Env.put, wOD, wLst, wTup, waNil, waCons, waStar, wC, wCall, wCallB, wIf, DL.wTru, truD, wAnd, wOr, DL.wNot, wAndV, wOrV, wNotV, List.map, List.length, List.replicate, List.replicate_succ, List.replicate_zero, DL.putK, OD.toD, o2I, o2I0, addD, mulD, ixD, lenL, lenD, intL, absL, maxL, minL, divmodL, tupleL, blOf, intOf, lstD, tupD, seqOf, outOf, List.tail, Nat.reduceAdd, Nat.reduceSub, wrNil, wrV, wrO, wCallR, wCallRO, takeA, takeK, backA, isOwn, Sl.asD, Sl.asO, spK, noInsO, sAugIx, modL, wIxB, lstOf, wTruB, bor, sExtO, wRep, wSl, wSlB, wCat, wListOf, wpNone, wpSome, DL.isScal, sFor, wRng1, wRng2, gN, gTupD, gConsD, gNilD, sAsg, sPar, parK, wnNil, wnV, wnO, sRetN, ownL, wIsi, isiL, isiD, eqD, neD, wComp, sAug, wGet, isC, wFld, fldD, wMeth, insD, madeK, wrDef, wMut, sRetB, List.nil_append, List.cons_append, DL.D.ty, seqD, gFld, modI, wEnum, wRev1, sumL, allL, anyL, sFreeze, frK, wIter, wIterT, wMake, wBm, idxL, sTry, exmD, sRaise, wEqO, wChain, wDNew, sSetK, modK, dicOf, wDGetB, wDGet, dicD, wDInB, wDGet2B, sAugK, keyD, wOfK, wOfKB, fCopy, fKeys, fSorted, wSortL, wDc, wKeys, wItems, wVals, sForL, noEx, eqK, neK, eqT, neT, ltT, wRng3, kD, N_law]
  refine compGo_inv (fun ds acc ρ => ∃ zs dn : List (Int × Int × Int), ds = zs.map tripD ∧ acc = (dn.map (liftT (r.at 0).2)).map tripD ∧ ρ = [_, _, _, _, _, _, _, _, .v (.int (r.at 0).2), .v (.lst (L1.map tripD)), .v (.lst (L2.map tripD)), .no, .no, _, _, _, _, _, .no, _] ∧ dn ++ zs = L2) (fun d ds acc ρ hI P hP => ?_) (fun acc ρ hI => ?_) _ _ _ ⟨L2, [], rfl, rfl, rfl, rfl⟩
  · obtain ⟨zs, dn, e, rfl, rfl, hz⟩ := hI
    cases zs with
    | nil => cases e
    | cons z zs =>
      obtain ⟨rfl, rfl⟩ := List.cons.inj e
      have hl := congrArg List.length hz
      simp only [List.length_append, List.length_cons] at hl
      refine ⟨rfl, rfl, fun _ => ?_, fun z => by (cases z)⟩
      refine ⟨mulOk_r (by omega), mulOk_r (by omega), (show 3 ≤ LIM by decide), by rw [List.length_map, List.length_map]; show dn.length < 16777216; omega, hP _ _ ⟨zs, dn ++ [z], rfl, by simp; rfl, rfl, by rw [← hz]; simp⟩⟩
  · obtain ⟨zs, dn, e, rfl, rfl, hz⟩ := hI
    cases zs with
    | cons z zs => cases e
    | nil =>
      rw [List.append_nil] at hz
      subst hz
      dsimp only [sSeq, sIf, sSet, sSetO, sRet, sRetO, sNext, sExpr, wTest, w1, w2, wVar, valOf, Env.at, Env.put, wOD, wLst, wTup, waNil, waCons, waStar, wC, wCall, wCallB, wIf, DL.wTru, truD, wAnd, wOr, DL.wNot, wAndV, wOrV, wNotV, List.map, List.length, List.replicate, List.replicate_succ, List.replicate_zero, DL.putK, OD.toD, o2I, o2I0, addD, mulD, ixD, lenL, lenD, intL, absL, maxL, minL, divmodL, tupleL, blOf, intOf, lstD, tupD, seqOf, outOf, List.tail, Nat.reduceAdd, Nat.reduceSub, wrNil, wrV, wrO, wCallR, wCallRO, takeA, takeK, backA, isOwn, Sl.asD, Sl.asO, spK, noInsO, sAugIx, modL, wIxB, lstOf, wTruB, bor, sExtO, wRep, wSl, wSlB, wCat, wListOf, wpNone, wpSome, DL.isScal, sFor, wRng1, wRng2, gN, gTupD, gConsD, gNilD, sAsg, sPar, parK, wnNil, wnV, wnO, sRetN, ownL, wIsi, isiL, isiD, eqD, neD, wComp, sAug, wGet, isC, wFld, fldD, wMeth, insD, madeK, wrDef, wMut, sRetB, List.nil_append, List.cons_append, DL.D.ty, seqD, gFld, modI, wEnum, wRev1, sumL, allL, anyL, sFreeze, frK, wIter, wIterT, wMake, wBm, idxL, sTry, exmD, sRaise, wEqO, wChain, wDNew, sSetK, modK, dicOf, wDGetB, wDGet, dicD, wDInB, wDGet2B, sAugK, keyD, wOfK, wOfKB, fCopy, fKeys, fSorted, wSortL, wDc, wKeys, wItems, wVals, sForL, noEx, eqK, neK, eqT, neT, ltT, wRng3, kD, N_law]
      rw [cut_to _ (by omega), Int.toNat_natCast, List.length_map, ← List.map_take, layB, eqv_trips, decide_eq_true rfl]
      refine ⟨(cmp_trips _).ok, (cmp_trips _).ok, fun z => by (cases z), fun _ => hN _ ?_⟩
      clear hN N layB lenB
      -- baked
      have bakB := baked_behind T day
      have mx : madeR r 1 (max 0 (day - 1)) = madeR r 1 (day - 1) := by
        by_cases z : day - 1 ≤ 0
        · rw [show max 0 (day - 1) = 0 by omega]
          show bakesR (r.at 0) 0 = bakesR (r.at 0) (day - 1)
          rw [bakesR_zero (r.at_ok 0), bakesR_neg _ (r.at_ok 0) (by omega)]
        · rw [show max 0 (day - 1) = day - 1 by omega]
      refine seq_intro fun N hN => ?_
      dsimp only [sSeq, sIf, sSet, sSetO, sRet, sRetO, sNext, sExpr, wTest, w1, w2, wVar, valOf, Env.at, Env.put, wOD, wLst, wTup, waNil, waCons, waStar, wC, wCall, wCallB, wIf, DL.wTru, truD, wAnd, wOr, DL.wNot, wAndV, wOrV, wNotV, List.map, List.length, List.replicate, List.replicate_succ, List.replicate_zero, DL.putK, OD.toD, o2I, o2I0, addD, mulD, ixD, lenL, lenD, intL, absL, maxL, minL, divmodL, tupleL, blOf, intOf, lstD, tupD, seqOf, outOf, List.tail, Nat.reduceAdd, Nat.reduceSub, wrNil, wrV, wrO, wCallR, wCallRO, takeA, takeK, backA, isOwn, Sl.asD, Sl.asO, spK, noInsO, sAugIx, modL, wIxB, lstOf, wTruB, bor, sExtO, wRep, wSl, wSlB, wCat, wListOf, wpNone, wpSome, DL.isScal, sFor, wRng1, wRng2, gN, gTupD, gConsD, gNilD, sAsg, sPar, parK, wnNil, wnV, wnO, sRetN, ownL, wIsi, isiL, isiD, eqD, neD, wComp, sAug, wGet, isC, wFld, fldD, wMeth, insD, madeK, wrDef, wMut, sRetB, List.nil_append, List.cons_append, DL.D.ty, seqD, gFld, modI, wEnum, wRev1, sumL, allL, anyL, sFreeze, frK, wIter, wIterT, wMake, wBm, idxL, sTry, exmD, sRaise, wEqO, wChain, wDNew, sSetK, modK, dicOf, wDGetB, wDGet, dicD, wDInB, wDGet2B, sAugK, keyD, wOfK, wOfKB, fCopy, fKeys, fSorted, wSortL, wDc, wKeys, wItems, wVals, sForL, noEx, eqK, neK, eqT, neT, ltT, wRng3, kD, N_law]
      refine ⟨(r, day), rfl, rfl, ⟨day0, day1⟩, fun xs hd => ?_⟩
      subst hd
      refine ⟨trivial, (r, 1, max 0 (day - 1)), rfl, rfl, by dsimp only; omega, fun d hd => ?_⟩
      subst hd
      dsimp only [sSeq, sIf, sSet, sSetO, sRet, sRetO, sNext, sExpr, wTest, w1, w2, wVar, valOf, Env.at, Env.put, wOD, wLst, wTup, waNil, waCons, waStar, wC, wCall, wCallB, wIf, DL.wTru, truD, wAnd, wOr, DL.wNot, wAndV, wOrV, wNotV, List.map, List.length, List.replicate, List.replicate_succ, List.replicate_zero, DL.putK, OD.toD, o2I, o2I0, addD, mulD, ixD, lenL, lenD, intL, absL, maxL, minL, divmodL, tupleL, blOf, intOf, lstD, tupD, seqOf, outOf, List.tail, Nat.reduceAdd, Nat.reduceSub, wrNil, wrV, wrO, wCallR, wCallRO, takeA, takeK, backA, isOwn, Sl.asD, Sl.asO, spK, noInsO, sAugIx, modL, wIxB, lstOf, wTruB, bor, sExtO, wRep, wSl, wSlB, wCat, wListOf, wpNone, wpSome, DL.isScal, sFor, wRng1, wRng2, gN, gTupD, gConsD, gNilD, sAsg, sPar, parK, wnNil, wnV, wnO, sRetN, ownL, wIsi, isiL, isiD, eqD, neD, wComp, sAug, wGet, isC, wFld, fldD, wMeth, insD, madeK, wrDef, wMut, sRetB, List.nil_append, List.cons_append, DL.D.ty, seqD, gFld, modI, wEnum, wRev1, sumL, allL, anyL, sFreeze, frK, wIter, wIterT, wMake, wBm, idxL, sTry, exmD, sRaise, wEqO, wChain, wDNew, sSetK, modK, dicOf, wDGetB, wDGet, dicD, wDInB, wDGet2B, sAugK, keyD, wOfK, wOfKB, fCopy, fKeys, fSorted, wSortL, wDc, wKeys, wItems, wVals, sForL, noEx, eqK, neK, eqT, neT, ltT, wRng3, kD, N_law]
      rw [mx]
      refine' rest_first (N := N) ?_ (fun nx => ?_)
      rotate_left 2
      · have bl : (bakedR t 0 (madeR r 1 day)).length ≤ 1000 := baked_len t _ _ _ _ day2
        refine ⟨fun h => ?_, fun h => ?_⟩
        · have h : madeR r 1 day > madeR r 1 (day - 1) := of_decide_eq_true h
          rw [if_pos h] at bakB
          refine ⟨by decide, (t, madeR r 1 day), rfl, rfl, ⟨late0, day2⟩, fun xs hd => ?_⟩
          subst hd
          dsimp only [sSeq, sIf, sSet, sSetO, sRet, sRetO, sNext, sExpr, wTest, w1, w2, wVar, valOf, Env.at, Env.put, wOD, wLst, wTup, waNil, waCons, waStar, wC, wCall, wCallB, wIf, DL.wTru, truD, wAnd, wOr, DL.wNot, wAndV, wOrV, wNotV, List.map, List.length, List.replicate, List.replicate_succ, List.replicate_zero, DL.putK, OD.toD, o2I, o2I0, addD, mulD, ixD, lenL, lenD, intL, absL, maxL, minL, divmodL, tupleL, blOf, intOf, lstD, tupD, seqOf, outOf, List.tail, Nat.reduceAdd, Nat.reduceSub, wrNil, wrV, wrO, wCallR, wCallRO, takeA, takeK, backA, isOwn, Sl.asD, Sl.asO, spK, noInsO, sAugIx, modL, wIxB, lstOf, wTruB, bor, sExtO, wRep, wSl, wSlB, wCat, wListOf, wpNone, wpSome, DL.isScal, sFor, wRng1, wRng2, gN, gTupD, gConsD, gNilD, sAsg, sPar, parK, wnNil, wnV, wnO, sRetN, ownL, wIsi, isiL, isiD, eqD, neD, wComp, sAug, wGet, isC, wFld, fldD, wMeth, insD, madeK, wrDef, wMut, sRetB, List.nil_append, List.cons_append, DL.D.ty, seqD, gFld, modI, wEnum, wRev1, sumL, allL, anyL, sFreeze, frK, wIter, wIterT, wMake, wBm, idxL, sTry, exmD, sRaise, wEqO, wChain, wDNew, sSetK, modK, dicOf, wDGetB, wDGet, dicD, wDInB, wDGet2B, sAugK, keyD, wOfK, wOfKB, fCopy, fKeys, fSorted, wSortL, wDc, wKeys, wItems, wVals, sForL, noEx, eqK, neK, eqT, neT, ltT, wRng3, kD, N_law]
          rw [bakB]
          generalize bakedR t 0 (madeR r 1 day) = L3 at bl
          refine ⟨trivial, ?_⟩
          refine compGo_inv (fun ds acc ρ => ∃ zs dn : List Int, ds = zs.map .int ∧ acc = (dn.map (· + 1)).map .int ∧ ρ = [_, _, _, _, _, _, _, _, _, _, _, .no, _, _, _, _, _, _, _, _] ∧ dn ++ zs = L3) (fun d ds acc ρ hI P hP => ?_) (fun acc ρ hI => ?_) _ _ _ ⟨L3, [], rfl, rfl, rfl, rfl⟩
          · obtain ⟨zs, dn, e, rfl, rfl, hz⟩ := hI
            cases zs with
            | nil => cases e
            | cons z zs =>
              obtain ⟨rfl, rfl⟩ := List.cons.inj e
              have hl := congrArg List.length hz
              simp only [List.length_append, List.length_cons] at hl
              refine ⟨fun _ => ?_, fun z => by (cases z)⟩
              refine ⟨by rw [List.length_map, List.length_map]; show dn.length < 16777216; omega, hP _ _ ⟨zs, dn ++ [z], rfl, by simp, rfl, by rw [← hz]; simp⟩⟩
          · obtain ⟨zs, dn, e, rfl, rfl, hz⟩ := hI
            cases zs with
            | cons z zs => cases e
            | nil =>
              rw [List.append_nil] at hz
              subst hz
              have ee := ei (0 :: dn.map (· + 1))
              refine ⟨by rw [List.length_map, List.length_map]; show 1 + dn.length ≤ 16777216; omega, (Cmp.ints _).ok, (Cmp.ints (0 :: dn.map (· + 1))).ok, fun h => ?_, fun _ => nx⟩
              exact absurd h (by
                rw [show D.eqv (.lst ((0 :: dn.map (· + 1)).map D.int)) (.lst (D.int 0 :: (dn.map (· + 1)).map D.int)) = true from ee]
                decide)
        · have h : ¬ madeR r 1 day > madeR r 1 (day - 1) := of_decide_eq_false h
          rw [if_neg h] at bakB
          rw [bakB]
          exact ⟨by decide, (Cmp.ints []).ok, (Cmp.ints []).ok, fun z => by (cases z), fun _ => nx⟩
      refine hN _ ?_
      clear hN N bakB mx
      -- next bakes
      refine seq_intro fun N hN => ?_
      dsimp only [sSeq, sIf, sSet, sSetO, sRet, sRetO, sNext, sExpr, wTest, w1, w2, wVar, valOf, Env.at, Env.put, wOD, wLst, wTup, waNil, waCons, waStar, wC, wCall, wCallB, wIf, DL.wTru, truD, wAnd, wOr, DL.wNot, wAndV, wOrV, wNotV, List.map, List.length, List.replicate, List.replicate_succ, List.replicate_zero, DL.putK, OD.toD, o2I, o2I0, addD, mulD, ixD, lenL, lenD, intL, absL, maxL, minL, divmodL, tupleL, blOf, intOf, lstD, tupD, seqOf, outOf, List.tail, Nat.reduceAdd, Nat.reduceSub, wrNil, wrV, wrO, wCallR, wCallRO, takeA, takeK, backA, isOwn, Sl.asD, Sl.asO, spK, noInsO, sAugIx, modL, wIxB, lstOf, wTruB, bor, sExtO, wRep, wSl, wSlB, wCat, wListOf, wpNone, wpSome, DL.isScal, sFor, wRng1, wRng2, gN, gTupD, gConsD, gNilD, sAsg, sPar, parK, wnNil, wnV, wnO, sRetN, ownL, wIsi, isiL, isiD, eqD, neD, wComp, sAug, wGet, isC, wFld, fldD, wMeth, insD, madeK, wrDef, wMut, sRetB, List.nil_append, List.cons_append, DL.D.ty, seqD, gFld, modI, wEnum, wRev1, sumL, allL, anyL, sFreeze, frK, wIter, wIterT, wMake, wBm, idxL, sTry, exmD, sRaise, wEqO, wChain, wDNew, sSetK, modK, dicOf, wDGetB, wDGet, dicD, wDInB, wDGet2B, sAugK, keyD, wOfK, wOfKB, fCopy, fKeys, fSorted, wSortL, wDc, wKeys, wItems, wVals, sForL, noEx, eqK, neK, eqT, neT, ltT, wRng3, kD, N_law]
      refine ⟨by decide, ?_⟩
      rw [show Int.toNat 3 = 3 from rfl]
      refine forGo_rng 3 (fun i ρ => ∃ s1 s2, ρ = [_, _, _, _, _, _, _, _, _, _, _, s1, s2, _, _, _, _, _, _, _] ∧ noIns s1 ∧ noIns s2) (fun i ρ hi hI P hP => ?_) (fun ρ hI => ?_) ⟨.no, .no, rfl, trivial, trivial⟩
      · obtain ⟨s1, s2, rfl, hs1, hs2⟩ := hI
        refine putK_intro (by simp) hs1 ?_
        dsimp only [sSeq, sIf, sSet, sSetO, sRet, sRetO, sNext, sExpr, wTest, w1, w2, wVar, valOf, Env.at, Env.put, wOD, wLst, wTup, waNil, waCons, waStar, wC, wCall, wCallB, wIf, DL.wTru, truD, wAnd, wOr, DL.wNot, wAndV, wOrV, wNotV, List.map, List.length, List.replicate, List.replicate_succ, List.replicate_zero, OD.toD, o2I, o2I0, addD, mulD, ixD, lenL, lenD, intL, absL, maxL, minL, divmodL, tupleL, blOf, intOf, lstD, tupD, seqOf, outOf, List.tail, Nat.reduceAdd, Nat.reduceSub, wrNil, wrV, wrO, wCallR, wCallRO, takeA, takeK, backA, isOwn, Sl.asD, Sl.asO, spK, noInsO, sAugIx, modL, wIxB, lstOf, wTruB, bor, sExtO, wRep, wSl, wSlB, wCat, wListOf, wpNone, wpSome, DL.isScal, sFor, wRng1, wRng2, gN, gTupD, gConsD, gNilD, sAsg, sPar, parK, wnNil, wnV, wnO, sRetN, ownL, wIsi, isiL, isiD, eqD, neD, wComp, sAug, wGet, isC, wFld, fldD, wMeth, insD, madeK, wrDef, wMut, sRetB, List.nil_append, List.cons_append, DL.D.ty, seqD, gFld, modI, wEnum, wRev1, sumL, allL, anyL, sFreeze, frK, wIter, wIterT, wMake, wBm, idxL, sTry, exmD, sRaise, wEqO, wChain, wDNew, sSetK, modK, dicOf, wDGetB, wDGet, dicD, wDInB, wDGet2B, sAugK, keyD, wOfK, wOfKB, fCopy, fKeys, fSorted, wSortL, wDc, wKeys, wItems, wVals, sForL, noEx, eqK, neK, eqT, neT, ltT, wRng3, kD]
        have M0 := madeR_nn r (i + 1 + 1) day0
        have M1 := madeR_le r (i + 1 + 1) day0
        have fb := dayMade_lt r (g := i + 1 + 1) (n := madeR r (i + 1 + 1) day + 1) (k := day + 1) (by omega) (by omega) (by omega)
        have nb := next_both T (i + 1) (M := madeR r (i + 1 + 1) day + 1) (by omega)
        have lim2 : 131072 + ((2 : Int) ^ 100 + 1) * 131072 < 2 ^ 1000 := by decide +kernel
        have fb2 := fb.2.2 (by omega)
        refine ⟨(r, i + 1, day), rfl, rfl, ⟨day0, day1, by dsimp only; omega⟩, fun d hd => ?_⟩
        subst hd
        refine putK_intro (by simp) hs2 ?_
        dsimp only [sSeq, sIf, sSet, sSetO, sRet, sRetO, sNext, sExpr, wTest, w1, w2, wVar, valOf, Env.at, Env.put, wOD, wLst, wTup, waNil, waCons, waStar, wC, wCall, wCallB, wIf, DL.wTru, truD, wAnd, wOr, DL.wNot, wAndV, wOrV, wNotV, List.map, List.length, List.replicate, List.replicate_succ, List.replicate_zero, OD.toD, o2I, o2I0, addD, mulD, ixD, lenL, lenD, intL, absL, maxL, minL, divmodL, tupleL, blOf, intOf, lstD, tupD, seqOf, outOf, List.tail, Nat.reduceAdd, Nat.reduceSub, wrNil, wrV, wrO, wCallR, wCallRO, takeA, takeK, backA, isOwn, Sl.asD, Sl.asO, spK, noInsO, sAugIx, modL, wIxB, lstOf, wTruB, bor, sExtO, wRep, wSl, wSlB, wCat, wListOf, wpNone, wpSome, DL.isScal, sFor, wRng1, wRng2, gN, gTupD, gConsD, gNilD, sAsg, sPar, parK, wnNil, wnV, wnO, sRetN, ownL, wIsi, isiL, isiD, eqD, neD, wComp, sAug, wGet, isC, wFld, fldD, wMeth, insD, madeK, wrDef, wMut, sRetB, List.nil_append, List.cons_append, DL.D.ty, seqD, gFld, modI, wEnum, wRev1, sumL, allL, anyL, sFreeze, frK, wIter, wIterT, wMake, wBm, idxL, sTry, exmD, sRaise, wEqO, wChain, wDNew, sSetK, modK, dicOf, wDGetB, wDGet, dicD, wDInB, wDGet2B, sAugK, keyD, wOfK, wOfKB, fCopy, fKeys, fSorted, wSortL, wDc, wKeys, wItems, wVals, sForL, noEx, eqK, neK, eqT, neT, ltT, wRng3, kD]
        generalize dayMadeR r (i + 1 + 1) (madeR r (i + 1 + 1) day + 1) = first at fb fb2 nb ⊢
        refine ⟨(r, 0, first - 1), rfl, rfl, ⟨by dsimp only; omega, by dsimp only; omega, (show (0 : Nat) < 90000 by decide)⟩, fun d hd => ?_⟩
        subst hd
        dsimp only [sSeq, sIf, sSet, sSetO, sRet, sRetO, sNext, sExpr, wTest, w1, w2, wVar, valOf, Env.at, Env.put, wOD, wLst, wTup, waNil, waCons, waStar, wC, wCall, wCallB, wIf, DL.wTru, truD, wAnd, wOr, DL.wNot, wAndV, wOrV, wNotV, List.map, List.length, List.replicate, List.replicate_succ, List.replicate_zero, DL.putK, OD.toD, o2I, o2I0, addD, mulD, ixD, lenL, lenD, intL, absL, maxL, minL, divmodL, tupleL, blOf, intOf, lstD, tupD, seqOf, outOf, List.tail, Nat.reduceAdd, Nat.reduceSub, wrNil, wrV, wrO, wCallR, wCallRO, takeA, takeK, backA, isOwn, Sl.asD, Sl.asO, spK, noInsO, sAugIx, modL, wIxB, lstOf, wTruB, bor, sExtO, wRep, wSl, wSlB, wCat, wListOf, wpNone, wpSome, DL.isScal, sFor, wRng1, wRng2, gN, gTupD, gConsD, gNilD, sAsg, sPar, parK, wnNil, wnV, wnO, sRetN, ownL, wIsi, isiL, isiD, eqD, neD, wComp, sAug, wGet, isC, wFld, fldD, wMeth, insD, madeK, wrDef, wMut, sRetB, List.nil_append, List.cons_append, DL.D.ty, seqD, gFld, modI, wEnum, wRev1, sumL, allL, anyL, sFreeze, frK, wIter, wIterT, wMake, wBm, idxL, sTry, exmD, sRaise, wEqO, wChain, wDNew, sSetK, modK, dicOf, wDGetB, wDGet, dicD, wDInB, wDGet2B, sAugK, keyD, wOfK, wOfKB, fCopy, fKeys, fSorted, wSortL, wDc, wKeys, wItems, wVals, sForL, noEx, eqK, neK, eqT, neT, ltT, wRng3, kD, N_law]
        rw [nb, e1]
        refine ⟨(Cmp.int _).ok, (Cmp.int _).ok, fun z => by (cases z), fun _ => ?_⟩
        refine ⟨(r, i + 1, day), rfl, rfl, day0, fun d hd => ?_⟩
        subst hd
        refine ⟨(t, i, madeR r 1 day), rfl, rfl, late0, fun d hd => ?_⟩
        subst hd
        dsimp only [sSeq, sIf, sSet, sSetO, sRet, sRetO, sNext, sExpr, wTest, w1, w2, wVar, valOf, Env.at, Env.put, wOD, wLst, wTup, waNil, waCons, waStar, wC, wCall, wCallB, wIf, DL.wTru, truD, wAnd, wOr, DL.wNot, wAndV, wOrV, wNotV, List.map, List.length, List.replicate, List.replicate_succ, List.replicate_zero, DL.putK, OD.toD, o2I, o2I0, addD, mulD, ixD, lenL, lenD, intL, absL, maxL, minL, divmodL, tupleL, blOf, intOf, lstD, tupD, seqOf, outOf, List.tail, Nat.reduceAdd, Nat.reduceSub, wrNil, wrV, wrO, wCallR, wCallRO, takeA, takeK, backA, isOwn, Sl.asD, Sl.asO, spK, noInsO, sAugIx, modL, wIxB, lstOf, wTruB, bor, sExtO, wRep, wSl, wSlB, wCat, wListOf, wpNone, wpSome, DL.isScal, sFor, wRng1, wRng2, gN, gTupD, gConsD, gNilD, sAsg, sPar, parK, wnNil, wnV, wnO, sRetN, ownL, wIsi, isiL, isiD, eqD, neD, wComp, sAug, wGet, isC, wFld, fldD, wMeth, insD, madeK, wrDef, wMut, sRetB, List.nil_append, List.cons_append, DL.D.ty, seqD, gFld, modI, wEnum, wRev1, sumL, allL, anyL, sFreeze, frK, wIter, wIterT, wMake, wBm, idxL, sTry, exmD, sRaise, wEqO, wChain, wDNew, sSetK, modK, dicOf, wDGetB, wDGet, dicD, wDInB, wDGet2B, sAugK, keyD, wOfK, wOfKB, fCopy, fKeys, fSorted, wSortL, wDc, wKeys, wItems, wVals, sForL, noEx, eqK, neK, eqT, neT, ltT, wRng3, kD, N_law]
        rw [madeR_tail T day i, e1]
        exact ⟨(Cmp.int _).ok, (Cmp.int _).ok, fun z => by (cases z), fun _ => hP _ ⟨_, _, rfl, trivial, trivial⟩⟩
      obtain ⟨s1, s2, rfl, hs1, hs2⟩ := hI
      refine hN _ ?_
      clear hN N
      -- places
      refine seq_intro fun N hN => ?_
      dsimp only [sSeq, sIf, sSet, sSetO, sRet, sRetO, sNext, sExpr, wTest, w1, w2, wVar, valOf, Env.at, Env.put, wOD, wLst, wTup, waNil, waCons, waStar, wC, wCall, wCallB, wIf, DL.wTru, truD, wAnd, wOr, DL.wNot, wAndV, wOrV, wNotV, List.map, List.length, List.replicate, List.replicate_succ, List.replicate_zero, DL.putK, OD.toD, o2I, o2I0, addD, mulD, ixD, lenL, lenD, intL, absL, maxL, minL, divmodL, tupleL, blOf, intOf, lstD, tupD, seqOf, outOf, List.tail, Nat.reduceAdd, Nat.reduceSub, wrNil, wrV, wrO, wCallR, wCallRO, takeA, takeK, backA, isOwn, Sl.asD, Sl.asO, spK, noInsO, sAugIx, modL, wIxB, lstOf, wTruB, bor, sExtO, wRep, wSl, wSlB, wCat, wListOf, wpNone, wpSome, DL.isScal, sFor, wRng1, wRng2, gN, gTupD, gConsD, gNilD, sAsg, sPar, parK, wnNil, wnV, wnO, sRetN, ownL, wIsi, isiL, isiD, eqD, neD, wComp, sAug, wGet, isC, wFld, fldD, wMeth, insD, madeK, wrDef, wMut, sRetB, List.nil_append, List.cons_append, DL.D.ty, seqD, gFld, modI, wEnum, wRev1, sumL, allL, anyL, sFreeze, frK, wIter, wIterT, wMake, wBm, idxL, sTry, exmD, sRaise, wEqO, wChain, wDNew, sSetK, modK, dicOf, wDGetB, wDGet, dicD, wDInB, wDGet2B, sAugK, keyD, wOfK, wOfKB, fCopy, fKeys, fSorted, wSortL, wDc, wKeys, wItems, wVals, sForL, noEx, eqK, neK, eqT, neT, ltT, wRng3, kD, N_law]
      refine ⟨trivial, _, [.int 300], rfl, rfl, ⟨y4, _, rfl, by omega⟩, fun d ys hd => ?_⟩
      obtain ⟨y5, m, c, e, rfl, c0, c1⟩ := hd
      cases e
      refine hN _ ?_
      clear hN N
      refine seq_intro fun N hN => ?_
      have rest : ∀ u1 u2 u4 : Sl, noIns u1 → noIns u2 → noIns u4 → N [.v (scrD b s), .own (.lst ys), .v (ruleL f p), .v (ruleL f' p'), .v (ruleD C r), .v (ruleD C t), .v (.int day), .v (.int (madeR r 1 day)), .v (.int (r.at 0).2), .v (.lst (L1.map tripD)), .v (.lst (dn.map tripD)), u1, u2, .v (.int (1 + c)), u4, .no, .no, .no, .no, .no] := fun u1 u2 u4 hu1 hu2 hu4 => by
        refine hN _ ?_
        clear hN N
        -- weights
        refine seq_intro fun N hN => ?_
        dsimp only [sSeq, sIf, sSet, sSetO, sRet, sRetO, sNext, sExpr, wTest, w1, w2, wVar, valOf, Env.at, Env.put, wOD, wLst, wTup, waNil, waCons, waStar, wC, wCall, wCallB, wIf, DL.wTru, truD, wAnd, wOr, DL.wNot, wAndV, wOrV, wNotV, List.map, List.length, List.replicate, List.replicate_succ, List.replicate_zero, DL.putK, OD.toD, o2I, o2I0, addD, mulD, ixD, lenL, lenD, intL, absL, maxL, minL, divmodL, tupleL, blOf, intOf, lstD, tupD, seqOf, outOf, List.tail, Nat.reduceAdd, Nat.reduceSub, wrNil, wrV, wrO, wCallR, wCallRO, takeA, takeK, backA, isOwn, Sl.asD, Sl.asO, spK, noInsO, sAugIx, modL, wIxB, lstOf, wTruB, bor, sExtO, wRep, wSl, wSlB, wCat, wListOf, wpNone, wpSome, DL.isScal, sFor, wRng1, wRng2, gN, gTupD, gConsD, gNilD, sAsg, sPar, parK, wnNil, wnV, wnO, sRetN, ownL, wIsi, isiL, isiD, eqD, neD, wComp, sAug, wGet, isC, wFld, fldD, wMeth, insD, madeK, wrDef, wMut, sRetB, List.nil_append, List.cons_append, DL.D.ty, seqD, gFld, modI, wEnum, wRev1, sumL, allL, anyL, sFreeze, frK, wIter, wIterT, wMake, wBm, idxL, sTry, exmD, sRaise, wEqO, wChain, wDNew, sSetK, modK, dicOf, wDGetB, wDGet, dicD, wDInB, wDGet2B, sAugK, keyD, wOfK, wOfKB, fCopy, fKeys, fSorted, wSortL, wDc, wKeys, wItems, wVals, sForL, noEx, eqK, neK, eqT, neT, ltT, wRng3, kD, N_law]
        refine ⟨by decide, ?_⟩
        refine compGo_inv (fun ds acc ρ => ∃ (xs : List D) (ws : List Int), drawOk xs ∧ ρ = [_, .own (.lst xs), _, _, _, _, _, _, _, _, _, _, _, _, _, _, _, _, _, .no] ∧ acc = ws.map .int ∧ (∀ x ∈ ws, -4 ≤ x ∧ x ≤ 4) ∧ ws.length + ds.length = 3) (fun d ds acc ρ hI P hP => ?_) (fun acc ρ hI => ?_) _ _ _ ⟨_, [], y5, rfl, rfl, by simp, rfl⟩
        · obtain ⟨xs, ws, x1, rfl, rfl, hw, hl⟩ := hI
          simp only [List.length_cons] at hl
          refine ⟨fun _ => ⟨trivial, ?_⟩, fun z => by (cases z)⟩
          refine ⟨_, [.int 9], rfl, rfl, ⟨x1, _, rfl, by omega⟩, fun d ys hd => ?_⟩
          obtain ⟨x4, m, e, e', rfl, e0, e2⟩ := hd
          cases e'
          refine ⟨by rw [List.length_map]; show ws.length < 16777216; omega, hP _ _ ⟨ys, ws ++ [e - 4], x4, rfl, by simp, fun x hx => ?_, by simp; omega⟩⟩
          rcases List.mem_append.mp hx with hx | hx
          · exact hw x hx
          · rw [List.mem_singleton.mp hx]; omega
        obtain ⟨xs, ws, x1, rfl, rfl, hw, hl⟩ := hI
        obtain ⟨wa, wb, wc, rfl⟩ : ∃ a b c, ws = [a, b, c] := by
          match ws, hl with
          | [a, b, c], _ => exact ⟨a, b, c, rfl⟩
        have wa0 := hw wa (by simp)
        have wb0 := hw wb (by simp)
        have wc0 := hw wc (by simp)
        dsimp only [sSeq, sIf, sSet, sSetO, sRet, sRetO, sNext, sExpr, wTest, w1, w2, wVar, valOf, Env.at, Env.put, wOD, wLst, wTup, waNil, waCons, waStar, wC, wCall, wCallB, wIf, DL.wTru, truD, wAnd, wOr, DL.wNot, wAndV, wOrV, wNotV, List.map, List.length, List.replicate, List.replicate_succ, List.replicate_zero, DL.putK, OD.toD, o2I, o2I0, addD, mulD, ixD, lenL, lenD, intL, absL, maxL, minL, divmodL, tupleL, blOf, intOf, lstD, tupD, seqOf, outOf, List.tail, Nat.reduceAdd, Nat.reduceSub, wrNil, wrV, wrO, wCallR, wCallRO, takeA, takeK, backA, isOwn, Sl.asD, Sl.asO, spK, noInsO, sAugIx, modL, wIxB, lstOf, wTruB, bor, sExtO, wRep, wSl, wSlB, wCat, wListOf, wpNone, wpSome, DL.isScal, sFor, wRng1, wRng2, gN, gTupD, gConsD, gNilD, sAsg, sPar, parK, wnNil, wnV, wnO, sRetN, ownL, wIsi, isiL, isiD, eqD, neD, wComp, sAug, wGet, isC, wFld, fldD, wMeth, insD, madeK, wrDef, wMut, sRetB, List.nil_append, List.cons_append, DL.D.ty, seqD, gFld, modI, wEnum, wRev1, sumL, allL, anyL, sFreeze, frK, wIter, wIterT, wMake, wBm, idxL, sTry, exmD, sRaise, wEqO, wChain, wDNew, sSetK, modK, dicOf, wDGetB, wDGet, dicD, wDInB, wDGet2B, sAugK, keyD, wOfK, wOfKB, fCopy, fKeys, fSorted, wSortL, wDc, wKeys, wItems, wVals, sForL, noEx, eqK, neK, eqT, neT, ltT, wRng3, kD, N_law]
        refine hN _ ?_
        clear hN N
        refine seq_intro fun N hN => ?_
        dsimp only [sSeq, sIf, sSet, sSetO, sRet, sRetO, sNext, sExpr, wTest, w1, w2, wVar, valOf, Env.at, Env.put, wOD, wLst, wTup, waNil, waCons, waStar, wC, wCall, wCallB, wIf, DL.wTru, truD, wAnd, wOr, DL.wNot, wAndV, wOrV, wNotV, List.map, List.length, List.replicate, List.replicate_succ, List.replicate_zero, DL.putK, OD.toD, o2I, o2I0, addD, mulD, ixD, lenL, lenD, intL, absL, maxL, minL, divmodL, tupleL, blOf, intOf, lstD, tupD, seqOf, outOf, List.tail, Nat.reduceAdd, Nat.reduceSub, wrNil, wrV, wrO, wCallR, wCallRO, takeA, takeK, backA, isOwn, Sl.asD, Sl.asO, spK, noInsO, sAugIx, modL, wIxB, lstOf, wTruB, bor, sExtO, wRep, wSl, wSlB, wCat, wListOf, wpNone, wpSome, DL.isScal, sFor, wRng1, wRng2, gN, gTupD, gConsD, gNilD, sAsg, sPar, parK, wnNil, wnV, wnO, sRetN, ownL, wIsi, isiL, isiD, eqD, neD, wComp, sAug, wGet, isC, wFld, fldD, wMeth, insD, madeK, wrDef, wMut, sRetB, List.nil_append, List.cons_append, DL.D.ty, seqD, gFld, modI, wEnum, wRev1, sumL, allL, anyL, sFreeze, frK, wIter, wIterT, wMake, wBm, idxL, sTry, exmD, sRaise, wEqO, wChain, wDNew, sSetK, modK, dicOf, wDGetB, wDGet, dicD, wDInB, wDGet2B, sAugK, keyD, wOfK, wOfKB, fCopy, fKeys, fSorted, wSortL, wDc, wKeys, wItems, wVals, sForL, noEx, eqK, neK, eqT, neT, ltT, wRng3, kD, N_law]
        refine fun dx => ⟨dx, ((true, [wa, wb]), true, [wc]), rfl, rfl, ⟨by simp, by simp, by simp, fun x hx => ?_⟩, fun ns xs2 hd => ?_⟩
        · have := hw x (by simpa using hx)
          omega
        obtain ⟨u, rfl, rfl, hu⟩ := hd
        refine ⟨rfl, rfl, (r, u, day), rfl, rfl, ⟨day0, day1⟩, fun d hd => ?_⟩
        subst hd
        dsimp only [sSeq, sIf, sSet, sSetO, sRet, sRetO, sNext, sExpr, wTest, w1, w2, wVar, valOf, Env.at, Env.put, wOD, wLst, wTup, waNil, waCons, waStar, wC, wCall, wCallB, wIf, DL.wTru, truD, wAnd, wOr, DL.wNot, wAndV, wOrV, wNotV, List.map, List.length, List.replicate, List.replicate_succ, List.replicate_zero, DL.putK, OD.toD, o2I, o2I0, addD, mulD, ixD, lenL, lenD, intL, absL, maxL, minL, divmodL, tupleL, blOf, intOf, lstD, tupD, seqOf, outOf, List.tail, Nat.reduceAdd, Nat.reduceSub, wrNil, wrV, wrO, wCallR, wCallRO, takeA, takeK, backA, isOwn, Sl.asD, Sl.asO, spK, noInsO, sAugIx, modL, wIxB, lstOf, wTruB, bor, sExtO, wRep, wSl, wSlB, wCat, wListOf, wpNone, wpSome, DL.isScal, sFor, wRng1, wRng2, gN, gTupD, gConsD, gNilD, sAsg, sPar, parK, wnNil, wnV, wnO, sRetN, ownL, wIsi, isiL, isiD, eqD, neD, wComp, sAug, wGet, isC, wFld, fldD, wMeth, insD, madeK, wrDef, wMut, sRetB, List.nil_append, List.cons_append, DL.D.ty, seqD, gFld, modI, wEnum, wRev1, sumL, allL, anyL, sFreeze, frK, wIter, wIterT, wMake, wBm, idxL, sTry, exmD, sRaise, wEqO, wChain, wDNew, sSetK, modK, dicOf, wDGetB, wDGet, dicD, wDInB, wDGet2B, sAugK, keyD, wOfK, wOfKB, fCopy, fKeys, fSorted, wSortL, wDc, wKeys, wItems, wVals, sForL, noEx, eqK, neK, eqT, neT, ltT, wRng3, kD, N_law]
        refine ⟨.int wa, rfl, (r, day), rfl, rfl, ⟨day0, day1⟩, fun xs3 hd => ?_⟩
        subst hd
        refine ⟨trivial, by decide, ?_, _, at0, ?_⟩
        · rw [List.length_map]
          show (digsR r 0 day).length + 1 ≤ 16777216
          omega
        refine ⟨mulOk_l (by omega), fun dx => ⟨dx, ((true, [wb]), true, [wc]), rfl, rfl, ⟨by simp, by simp, by simp, fun x hx => ?_⟩, fun ns xs2 hd => ?_⟩⟩
        · have := hw x (List.mem_cons_of_mem _ (by simpa using hx))
          omega
        obtain ⟨v, rfl, rfl, hv⟩ := hd
        dsimp only at hu hv
        refine ⟨rfl, rfl, (t, v, madeR r 1 day), rfl, rfl, ⟨late0, day2⟩, fun d hd => ?_⟩
        subst hd
        have wu : totW u 0 (digsR r 0 day) = wa * d0 + totW v 0 (digsR t 0 (madeR r 1 day)) := by
          rcases dd with e | ⟨e, e2, e3⟩
          · rw [e, totW, hu 0, totW_tail (fun g => by rw [hv, hu, rowAt_tail wa]), Int.mul_comm]; rfl
          · rw [e, e2, e3, totW, totW]; omega
        dsimp only [sSeq, sIf, sSet, sSetO, sRet, sRetO, sNext, sExpr, wTest, w1, w2, wVar, valOf, Env.at, Env.put, wOD, wLst, wTup, waNil, waCons, waStar, wC, wCall, wCallB, wIf, DL.wTru, truD, wAnd, wOr, DL.wNot, wAndV, wOrV, wNotV, List.map, List.length, List.replicate, List.replicate_succ, List.replicate_zero, DL.putK, OD.toD, o2I, o2I0, addD, mulD, ixD, lenL, lenD, intL, absL, maxL, minL, divmodL, tupleL, blOf, intOf, lstD, tupD, seqOf, outOf, List.tail, Nat.reduceAdd, Nat.reduceSub, wrNil, wrV, wrO, wCallR, wCallRO, takeA, takeK, backA, isOwn, Sl.asD, Sl.asO, spK, noInsO, sAugIx, modL, wIxB, lstOf, wTruB, bor, sExtO, wRep, wSl, wSlB, wCat, wListOf, wpNone, wpSome, DL.isScal, sFor, wRng1, wRng2, gN, gTupD, gConsD, gNilD, sAsg, sPar, parK, wnNil, wnV, wnO, sRetN, ownL, wIsi, isiL, isiD, eqD, neD, wComp, sAug, wGet, isC, wFld, fldD, wMeth, insD, madeK, wrDef, wMut, sRetB, List.nil_append, List.cons_append, DL.D.ty, seqD, gFld, modI, wEnum, wRev1, sumL, allL, anyL, sFreeze, frK, wIter, wIterT, wMake, wBm, idxL, sTry, exmD, sRaise, wEqO, wChain, wDNew, sSetK, modK, dicOf, wDGetB, wDGet, dicD, wDInB, wDGet2B, sAugK, keyD, wOfK, wOfKB, fCopy, fKeys, fSorted, wSortL, wDc, wKeys, wItems, wVals, sForL, noEx, eqK, neK, eqT, neT, ltT, wRng3, kD, N_law]
        rw [wu, e1]
        refine ⟨(Cmp.int _).ok, (Cmp.int _).ok, fun z => by (cases z), fun _ => hN _ ?_⟩
        clear hN N
        -- first days
        refine seq_intro fun N hN => ?_
        dsimp only [sSeq, sIf, sSet, sSetO, sRet, sRetO, sNext, sExpr, wTest, w1, w2, wVar, valOf, Env.at, Env.put, wOD, wLst, wTup, waNil, waCons, waStar, wC, wCall, wCallB, wIf, DL.wTru, truD, wAnd, wOr, DL.wNot, wAndV, wOrV, wNotV, List.map, List.length, List.replicate, List.replicate_succ, List.replicate_zero, DL.putK, OD.toD, o2I, o2I0, addD, mulD, ixD, lenL, lenD, intL, absL, maxL, minL, divmodL, tupleL, blOf, intOf, lstD, tupD, seqOf, outOf, List.tail, Nat.reduceAdd, Nat.reduceSub, wrNil, wrV, wrO, wCallR, wCallRO, takeA, takeK, backA, isOwn, Sl.asD, Sl.asO, spK, noInsO, sAugIx, modL, wIxB, lstOf, wTruB, bor, sExtO, wRep, wSl, wSlB, wCat, wListOf, wpNone, wpSome, DL.isScal, sFor, wRng1, wRng2, gN, gTupD, gConsD, gNilD, sAsg, sPar, parK, wnNil, wnV, wnO, sRetN, ownL, wIsi, isiL, isiD, eqD, neD, wComp, sAug, wGet, isC, wFld, fldD, wMeth, insD, madeK, wrDef, wMut, sRetB, List.nil_append, List.cons_append, DL.D.ty, seqD, gFld, modI, wEnum, wRev1, sumL, allL, anyL, sFreeze, frK, wIter, wIterT, wMake, wBm, idxL, sTry, exmD, sRaise, wEqO, wChain, wDNew, sSetK, modK, dicOf, wDGetB, wDGet, dicD, wDInB, wDGet2B, sAugK, keyD, wOfK, wOfKB, fCopy, fKeys, fSorted, wSortL, wDc, wKeys, wItems, wVals, sForL, noEx, eqK, neK, eqT, neT, ltT, wRng3, kD, N_law]
        refine ⟨trivial, _, [.int 12], rfl, rfl, ⟨x1, _, rfl, by omega⟩, fun d ys hd => ?_⟩
        obtain ⟨x4, m, n, e, rfl, n0, n1⟩ := hd
        cases e
        refine hN _ ?_
        clear hN N
        refine seq_intro fun N hN => ?_
        dsimp only [sSeq, sIf, sSet, sSetO, sRet, sRetO, sNext, sExpr, wTest, w1, w2, wVar, valOf, Env.at, Env.put, wOD, wLst, wTup, waNil, waCons, waStar, wC, wCall, wCallB, wIf, DL.wTru, truD, wAnd, wOr, DL.wNot, wAndV, wOrV, wNotV, List.map, List.length, List.replicate, List.replicate_succ, List.replicate_zero, DL.putK, OD.toD, o2I, o2I0, addD, mulD, ixD, lenL, lenD, intL, absL, maxL, minL, divmodL, tupleL, blOf, intOf, lstD, tupD, seqOf, outOf, List.tail, Nat.reduceAdd, Nat.reduceSub, wrNil, wrV, wrO, wCallR, wCallRO, takeA, takeK, backA, isOwn, Sl.asD, Sl.asO, spK, noInsO, sAugIx, modL, wIxB, lstOf, wTruB, bor, sExtO, wRep, wSl, wSlB, wCat, wListOf, wpNone, wpSome, DL.isScal, sFor, wRng1, wRng2, gN, gTupD, gConsD, gNilD, sAsg, sPar, parK, wnNil, wnV, wnO, sRetN, ownL, wIsi, isiL, isiD, eqD, neD, wComp, sAug, wGet, isC, wFld, fldD, wMeth, insD, madeK, wrDef, wMut, sRetB, List.nil_append, List.cons_append, DL.D.ty, seqD, gFld, modI, wEnum, wRev1, sumL, allL, anyL, sFreeze, frK, wIter, wIterT, wMake, wBm, idxL, sTry, exmD, sRaise, wEqO, wChain, wDNew, sSetK, modK, dicOf, wDGetB, wDGet, dicD, wDInB, wDGet2B, sAugK, keyD, wOfK, wOfKB, fCopy, fKeys, fSorted, wSortL, wDc, wKeys, wItems, wVals, sForL, noEx, eqK, neK, eqT, neT, ltT, wRng3, kD, N_law]
        refine ⟨((f, p), 0), rfl, rfl, dr.ne, fun d hd => ?_⟩
        subst hd
        dsimp only
        rw [← hr 0]
        refine ⟨.int (r.at 0).1, rfl, hN _ ?_⟩
        clear hN N
        dsimp only [sSeq, sIf, sSet, sSetO, sRet, sRetO, sNext, sExpr, wTest, w1, w2, wVar, valOf, Env.at, Env.put, wOD, wLst, wTup, waNil, waCons, waStar, wC, wCall, wCallB, wIf, DL.wTru, truD, wAnd, wOr, DL.wNot, wAndV, wOrV, wNotV, List.map, List.length, List.replicate, List.replicate_succ, List.replicate_zero, DL.putK, OD.toD, o2I, o2I0, addD, mulD, ixD, lenL, lenD, intL, absL, maxL, minL, divmodL, tupleL, blOf, intOf, lstD, tupD, seqOf, outOf, List.tail, Nat.reduceAdd, Nat.reduceSub, wrNil, wrV, wrO, wCallR, wCallRO, takeA, takeK, backA, isOwn, Sl.asD, Sl.asO, spK, noInsO, sAugIx, modL, wIxB, lstOf, wTruB, bor, sExtO, wRep, wSl, wSlB, wCat, wListOf, wpNone, wpSome, DL.isScal, sFor, wRng1, wRng2, gN, gTupD, gConsD, gNilD, sAsg, sPar, parK, wnNil, wnV, wnO, sRetN, ownL, wIsi, isiL, isiD, eqD, neD, wComp, sAug, wGet, isC, wFld, fldD, wMeth, insD, madeK, wrDef, wMut, sRetB, List.nil_append, List.cons_append, DL.D.ty, seqD, gFld, modI, wEnum, wRev1, sumL, allL, anyL, sFreeze, frK, wIter, wIterT, wMake, wBm, idxL, sTry, exmD, sRaise, wEqO, wChain, wDNew, sSetK, modK, dicOf, wDGetB, wDGet, dicD, wDInB, wDGet2B, sAugK, keyD, wOfK, wOfKB, fCopy, fKeys, fSorted, wSortL, wDc, wKeys, wItems, wVals, sForL, noEx, eqK, neK, eqT, neT, ltT, wRng3, kD, N_law]
        refine ⟨fun h => ?_, fun h => ?_⟩
        · exact ⟨trivial, k _ rfl⟩
        · have h : ¬ n ≤ (r.at 0).1 - 1 := of_decide_eq_false h
          refine ⟨(r, n), rfl, rfl, ⟨n0, by dsimp only; omega⟩, fun d hd => ?_⟩
          subst hd
          refine ⟨(t, n - ((r.at 0).1 - 1)), rfl, rfl, ⟨by dsimp only; omega, by dsimp only; omega⟩, fun d hd => ?_⟩
          subst hd
          dsimp only [sSeq, sIf, sSet, sSetO, sRet, sRetO, sNext, sExpr, wTest, w1, w2, wVar, valOf, Env.at, Env.put, wOD, wLst, wTup, waNil, waCons, waStar, wC, wCall, wCallB, wIf, DL.wTru, truD, wAnd, wOr, DL.wNot, wAndV, wOrV, wNotV, List.map, List.length, List.replicate, List.replicate_succ, List.replicate_zero, DL.putK, OD.toD, o2I, o2I0, addD, mulD, ixD, lenL, lenD, intL, absL, maxL, minL, divmodL, tupleL, blOf, intOf, lstD, tupD, seqOf, outOf, List.tail, Nat.reduceAdd, Nat.reduceSub, wrNil, wrV, wrO, wCallR, wCallRO, takeA, takeK, backA, isOwn, Sl.asD, Sl.asO, spK, noInsO, sAugIx, modL, wIxB, lstOf, wTruB, bor, sExtO, wRep, wSl, wSlB, wCat, wListOf, wpNone, wpSome, DL.isScal, sFor, wRng1, wRng2, gN, gTupD, gConsD, gNilD, sAsg, sPar, parK, wnNil, wnV, wnO, sRetN, ownL, wIsi, isiL, isiD, eqD, neD, wComp, sAug, wGet, isC, wFld, fldD, wMeth, insD, madeK, wrDef, wMut, sRetB, List.nil_append, List.cons_append, DL.D.ty, seqD, gFld, modI, wEnum, wRev1, sumL, allL, anyL, sFreeze, frK, wIter, wIterT, wMake, wBm, idxL, sTry, exmD, sRaise, wEqO, wChain, wDNew, sSetK, modK, dicOf, wDGetB, wDGet, dicD, wDInB, wDGet2B, sAugK, keyD, wOfK, wOfKB, fCopy, fKeys, fSorted, wSortL, wDc, wKeys, wItems, wVals, sForL, noEx, eqK, neK, eqT, neT, ltT, wRng3, kD, N_law]
          rw [first_behind T (by omega), e1]
          exact ⟨mulOk_l (by omega), (Cmp.int _).ok, (Cmp.int _).ok, trivial, k _ rfl⟩
      have pb := place_behind T (one := 1 + c) (n := day) (by omega)
      have one0 : 1 ≤ 1 + c := by omega
      generalize 1 + c = one at rest pb one0 ⊢
      dsimp only [sSeq, sIf, sSet, sSetO, sRet, sRetO, sNext, sExpr, wTest, w1, w2, wVar, valOf, Env.at, Env.put, wOD, wLst, wTup, waNil, waCons, waStar, wC, wCall, wCallB, wIf, DL.wTru, truD, wAnd, wOr, DL.wNot, wAndV, wOrV, wNotV, List.map, List.length, List.replicate, List.replicate_succ, List.replicate_zero, DL.putK, OD.toD, o2I, o2I0, addD, mulD, ixD, lenL, lenD, intL, absL, maxL, minL, divmodL, tupleL, blOf, intOf, lstD, tupD, seqOf, outOf, List.tail, Nat.reduceAdd, Nat.reduceSub, wrNil, wrV, wrO, wCallR, wCallRO, takeA, takeK, backA, isOwn, Sl.asD, Sl.asO, spK, noInsO, sAugIx, modL, wIxB, lstOf, wTruB, bor, sExtO, wRep, wSl, wSlB, wCat, wListOf, wpNone, wpSome, DL.isScal, sFor, wRng1, wRng2, gN, gTupD, gConsD, gNilD, sAsg, sPar, parK, wnNil, wnV, wnO, sRetN, ownL, wIsi, isiL, isiD, eqD, neD, wComp, sAug, wGet, isC, wFld, fldD, wMeth, insD, madeK, wrDef, wMut, sRetB, List.nil_append, List.cons_append, DL.D.ty, seqD, gFld, modI, wEnum, wRev1, sumL, allL, anyL, sFreeze, frK, wIter, wIterT, wMake, wBm, idxL, sTry, exmD, sRaise, wEqO, wChain, wDNew, sSetK, modK, dicOf, wDGetB, wDGet, dicD, wDInB, wDGet2B, sAugK, keyD, wOfK, wOfKB, fCopy, fKeys, fSorted, wSortL, wDc, wKeys, wItems, wVals, sForL, noEx, eqK, neK, eqT, neT, ltT, wRng3, kD, N_law]
      refine ⟨fun h => ?_, fun h => rest _ _ _ hs1 hs2 trivial⟩
      have h : one ≤ day := of_decide_eq_true h
      refine ⟨(r, one, day), rfl, rfl, ⟨by dsimp only; omega, h, day1⟩, fun d hd => ?_⟩
      subst hd
      refine ⟨rfl, putK_intro (by simp) hs1 ?_⟩
      dsimp only [sSeq, sIf, sSet, sSetO, sRet, sRetO, sNext, sExpr, wTest, w1, w2, wVar, valOf, Env.at, Env.put, wOD, wLst, wTup, waNil, waCons, waStar, wC, wCall, wCallB, wIf, DL.wTru, truD, wAnd, wOr, DL.wNot, wAndV, wOrV, wNotV, List.map, List.length, List.replicate, List.replicate_succ, List.replicate_zero, DL.putK, OD.toD, o2I, o2I0, addD, mulD, ixD, lenL, lenD, intL, absL, maxL, minL, divmodL, tupleL, blOf, intOf, lstD, tupD, seqOf, outOf, List.tail, Nat.reduceAdd, Nat.reduceSub, wrNil, wrV, wrO, wCallR, wCallRO, takeA, takeK, backA, isOwn, Sl.asD, Sl.asO, spK, noInsO, sAugIx, modL, wIxB, lstOf, wTruB, bor, sExtO, wRep, wSl, wSlB, wCat, wListOf, wpNone, wpSome, DL.isScal, sFor, wRng1, wRng2, gN, gTupD, gConsD, gNilD, sAsg, sPar, parK, wnNil, wnV, wnO, sRetN, ownL, wIsi, isiL, isiD, eqD, neD, wComp, sAug, wGet, isC, wFld, fldD, wMeth, insD, madeK, wrDef, wMut, sRetB, List.nil_append, List.cons_append, DL.D.ty, seqD, gFld, modI, wEnum, wRev1, sumL, allL, anyL, sFreeze, frK, wIter, wIterT, wMake, wBm, idxL, sTry, exmD, sRaise, wEqO, wChain, wDNew, sSetK, modK, dicOf, wDGetB, wDGet, dicD, wDInB, wDGet2B, sAugK, keyD, wOfK, wOfKB, fCopy, fKeys, fSorted, wSortL, wDc, wKeys, wItems, wVals, sForL, noEx, eqK, neK, eqT, neT, ltT, wRng3, kD, N_law]
      generalize placeR r one day = pl1 at pb ⊢
      refine ⟨rfl, fun hg => ?_, fun _ => ⟨fun z => by (cases z), fun _ => rest (.v (.int _)) s2 (.v (.int _)) trivial hs2 trivial⟩⟩
      have hg : 0 < (pl1.1 : Int) := of_decide_eq_true hg
      obtain ⟨b1, b2, b3⟩ := pb h (by omega)
      refine ⟨divOk_small (by omega) (by omega), (t, (one + (r.at 0).2 - 1) / (r.at 0).2, madeR r 1 day), rfl, rfl, ⟨b1, b2, day2⟩, fun d hd => ?_⟩
      subst hd
      dsimp only [sSeq, sIf, sSet, sSetO, sRet, sRetO, sNext, sExpr, wTest, w1, w2, wVar, valOf, Env.at, Env.put, wOD, wLst, wTup, waNil, waCons, waStar, wC, wCall, wCallB, wIf, DL.wTru, truD, wAnd, wOr, DL.wNot, wAndV, wOrV, wNotV, List.map, List.length, List.replicate, List.replicate_succ, List.replicate_zero, DL.putK, OD.toD, o2I, o2I0, addD, mulD, ixD, lenL, lenD, intL, absL, maxL, minL, divmodL, tupleL, blOf, intOf, lstD, tupD, seqOf, outOf, List.tail, Nat.reduceAdd, Nat.reduceSub, wrNil, wrV, wrO, wCallR, wCallRO, takeA, takeK, backA, isOwn, Sl.asD, Sl.asO, spK, noInsO, sAugIx, modL, wIxB, lstOf, wTruB, bor, sExtO, wRep, wSl, wSlB, wCat, wListOf, wpNone, wpSome, DL.isScal, sFor, wRng1, wRng2, gN, gTupD, gConsD, gNilD, sAsg, sPar, parK, wnNil, wnV, wnO, sRetN, ownL, wIsi, isiL, isiD, eqD, neD, wComp, sAug, wGet, isC, wFld, fldD, wMeth, insD, madeK, wrDef, wMut, sRetB, List.nil_append, List.cons_append, DL.D.ty, seqD, gFld, modI, wEnum, wRev1, sumL, allL, anyL, sFreeze, frK, wIter, wIterT, wMake, wBm, idxL, sTry, exmD, sRaise, wEqO, wChain, wDNew, sSetK, modK, dicOf, wDGetB, wDGet, dicD, wDInB, wDGet2B, sAugK, keyD, wOfK, wOfKB, fCopy, fKeys, fSorted, wSortL, wDc, wKeys, wItems, wVals, sForL, noEx, eqK, neK, eqT, neT, ltT, wRng3, kD, N_law]
      rw [b3]
      have ep : ((pl1.1 - 1 : Nat) : Int) = (pl1.1 : Int) - 1 := by omega
      have e2 : ∀ x y : Int, D.eqv (.tup [.int x, .int y]) (.tup [.int x, .int y]) = true := fun x y => (eqv_pair (x, y) (x, y)).trans (decide_eq_true rfl)
      dsimp only
      rw [ep, e2]
      exact ⟨by decide, (cmp_pair (_, _)).ok, (cmp_pair (_, _)).ok, fun z => by (cases z), fun _ => rest (.v (.int _)) s2 (.v (.int _)) trivial hs2 trivial⟩

theorem cal_law {f : Addr} {fd : FuncData} (F : Fun K "law" "law" s_law f fd) (hm : mg "law" = some (.ref f)) (B : Bl K mg C A_Weights) (R_Rule : RuleS K mg C) (R_Weights : WeightsS K mg A_Weights) (E_SiltError : ErrS K mg "SiltError" X_SiltError) (E_BadDay : ErrS K mg "BadDay" X_BadDay) (E_BadWeights : ErrS K mg "BadWeights" X_BadWeights) (C__law_rule : Cal P w K mg base 6 "_law_rule" P__law_rule sp__law_rule) (C__law_tail : Cal P w K mg base 1 "_law_tail" P__law_tail sp__law_tail) (C_Rule : CalN P w K mg base C "Rule" 4 P_Rule___init__ (sp_Rule___init__ C)) (C__law_pick : Cal P w K mg base 3 "_law_pick" P__law_pick sp__law_pick) (C__law_take : Cal P w K mg base 2 "_law_take" P__law_take sp__law_take) (C__law_far : Cal P w K mg base 5 "_law_far" P__law_far sp__law_far) (C_made : Cal P w K mg base 6 "made" P_made (sp_made C)) (C__law_at : Cal P w K mg base 1 "_law_at" P__law_at sp__law_at) (C_digits : Cal P w K mg base 6 "digits" P_digits (sp_digits C)) (C_count : Cal P w K mg base 7 "count" P_count (sp_count C)) (C_work : Cal P w K mg base 6 "work" P_work (sp_work C)) (C_layers : Cal P w K mg base 8 "layers" P_layers (sp_layers C)) (C_baked : Cal P w K mg base 6 "baked" P_baked (sp_baked C)) (C_next_baked : Cal P w K mg base 8 "next_baked" P_next_baked (sp_next_baked C)) (C_place : Cal P w K mg base 8 "place" P_place (sp_place C)) (C_weighed : Cal P w K mg base 7 "weighed" P_weighed (sp_weighed C A_Weights)) (C_Weights : CalN P w K mg base A_Weights "Weights" 4 P_Weights___init__ (sp_Weights___init__ A_Weights)) (C_first_with : Cal P w K mg base 8 "first_with" P_first_with (sp_first_with C)) : Cal P w K mg base 20 "law" P_law sp_law :=
  ⟨⟨f, fd, ok_law F B R_Rule R_Weights E_SiltError E_BadDay E_BadWeights C__law_rule C__law_tail C_Rule C__law_pick C__law_take C__law_far C_made C__law_at C_digits C_count C_work C_layers C_baked C_next_baked C_place C_weighed C_Weights C_first_with, hm, F.kp, F.binds (ps := P_law) fun _ _ _ _ _ _ us hl => match us, hl with | [_], _ => rfl⟩, mono_spF⟩
end L53
set_option Elab.async false
set_option linter.all false
set_option maxRecDepth 100000
set_option maxHeartbeats 0
namespace L53
open PySem L2 DL
variable {K : PySem.W.Frag} {C : Addr}
/-! isinstance's answers for the types that occur -/
theorem tn_ok (C : Addr) : Value.none ∉ tys C := by simp [tys]
theorem isc_ok (c : IsC K C) : ∀ D, Value.ref D ∈ tys C → IsC K D := fun D h => by
  simp only [tys, List.mem_cons, List.not_mem_nil, or_false, reduceCtorEq, false_or, Value.ref.injEq] at h
  subst h; exact c
theorem kit_all {u : Value} {yes : List Value} (h : ∀ a ∈ (["NoneType", "bool", "int", "str", "list", "tuple", "dict"] : List String), PySem.W.kitOne K (.type a) u = some (decide (Value.type a ∈ yes))) (h2 : PySem.W.kitOne K (.ref C) u = some (decide (Value.ref C ∈ yes))) : ∀ t ∈ tys C, PySem.W.kitOne K t u = some (decide (t ∈ yes)) := fun t ht => by
  simp only [tys, List.mem_cons, List.not_mem_nil, or_false] at ht
  rcases ht with rfl | rfl | rfl | rfl | rfl | rfl | rfl | rfl
  all_goals first | exact h _ (by simp) | exact h2
theorem kit_any_all {us yes : List Value} (h : ∀ a ∈ (["NoneType", "bool", "int", "str", "list", "tuple", "dict"] : List String), PySem.W.kitAny K (.type a) us = some (decide (Value.type a ∈ yes))) (h2 : PySem.W.kitAny K (.ref C) us = some (decide (Value.ref C ∈ yes))) : ∀ t ∈ tys C, PySem.W.kitAny K t us = some (decide (t ∈ yes)) := fun t ht => by
  simp only [tys, List.mem_cons, List.not_mem_nil, or_false] at ht
  rcases ht with rfl | rfl | rfl | rfl | rfl | rfl | rfl | rfl
  all_goals first | exact h _ (by simp) | exact h2
theorem k_int_ok (m : PySem.W.mroIn K C (.type "int") = some false) : ∀ t ∈ tys C, PySem.W.kitOne K t (.type "int") = some (decide (t ∈ [Value.type "int", .type "bool"])) :=
  kit_all (fun a ha => kit_ty (by revert a; decide +kernel)) ((kit_cb (by decide +kernel) m).trans (by simp))
theorem k_own_ok {b : Value} {r : Bool} (m : PySem.W.mroIn K C b = some r) (ty : PySem.W.typeIn K (.ref C) = some (.type "type")) : ∀ t ∈ tys C, PySem.W.kitOne K t (.ref C) = some (decide (t ∈ [Value.ref C])) :=
  kit_all (fun a ha => (kit_bc m ty (b := false) (by
    simp only [List.mem_cons, List.not_mem_nil, or_false] at ha
    rcases ha with rfl | rfl | rfl | rfl | rfl | rfl | rfl <;> rfl)).trans (by simp)) (kit_cc.trans (by simp))
theorem k_lt_ok (m1 : PySem.W.mroIn K C (.type "list") = some false) (m2 : PySem.W.mroIn K C (.type "tuple") = some false) : ∀ t ∈ tys C, PySem.W.kitAny K t [.type "list", .type "tuple"] = some (decide (t ∈ ([.type "list", .type "tuple"] : List Value))) :=
  kit_any_all (fun a ha => by
    simp only [List.mem_cons, List.not_mem_nil, or_false] at ha
    rcases ha with rfl | rfl | rfl | rfl | rfl | rfl | rfl <;> (with_unfolding_all rfl)) (by
    rw [kit_any (b := fun _ => false) (fs := fun _ => false) (fun u hu => by
      simp only [List.mem_cons, List.not_mem_nil, or_false] at hu
      rcases hu with rfl | rfl
      · exact kit_cb (by decide +kernel) m1
      · exact kit_cb (by decide +kernel) m2)]
    simp)
/-- an error of a class is caught by its name -/
theorem exm_me {K : PySem.W.Frag} {S : Addr} (h1 : PySem.W.subIn K (.ref S) (.type "BaseException") = some true) (h2 : PySem.W.isClsIn K S = true) (h3 : PySem.W.typeIn K (.ref S) = some (.type "type")) (h4 : PySem.W.subIn K (.ref S) (.ref S) = some true) : PySem.W.exmOne K (.ref S) (.ref S) = some true := by
  have c : (PySem.W.clsIn K S).isSome = true := h2
  unfold PySem.W.exmOne
  rw [h1, if_pos (by simp)]
  unfold PySem.W.kitCls
  show (if _ then PySem.W.subIn K (.ref S) (.ref S) else none) = some true
  rw [c, h3, if_pos (by simp), h4]

theorem all_mk {l : PySem.W.OpenLaw} {w : World} {K : PySem.W.Frag} {h : Heap} {mg : Str → Option Value} {fa C A_Weights X_SiltError X_BadDay X_BadWeights f1 f2 f3 f4 f5 f6 f7 f8 f9 f10 f11 f12 f13 f14 f15 f16 f17 f18 f19 f20 f21 f22 f23 f24 f25 f26 f27 f28 f29 f30 f31 f32 f33 f34 f35 f36 f37 f38 f39 f40 f41 f42 : Addr} {od1 od2 od3 od4 od5 od6 od7 od8 od9 od10 od11 od12 od13 od14 od15 od16 od17 od18 od19 od20 od21 od22 od23 od24 od25 od26 od27 od28 od29 od30 od31 od32 od33 od34 od35 od36 od37 od38 od39 od40 od41 od42 an1 an2 an3 an4 an5 an6 an7 an8 an9 an10 an11 an12 an13 an14 an15 an16 an17 an18 an19 an20 an21 an22 an23 an24 an25 an26 an27 an28 an29 an30 an31 an32 an33 an34 an35 an36 an37 an38 an39 an40 an41 an42 : Option Addr} {sl1 sl2 sl3 sl4 sl5 sl6 sl7 sl8 sl9 sl10 sl11 sl12 sl13 sl14 sl15 sl16 sl17 sl18 sl19 sl20 sl21 sl22 sl23 sl24 sl25 sl26 sl27 sl28 sl29 sl30 sl31 sl32 sl33 sl34 sl35 sl36 sl37 sl38 sl39 sl40 sl41 sl42 : Array (Option Value)} {oc1 oc2 oc3 oc4 oc5 oc6 oc7 oc8 oc9 oc10 oc11 oc12 oc13 oc14 oc15 oc16 oc17 oc18 oc19 oc20 oc21 oc22 oc23 oc24 oc25 oc26 oc27 oc28 oc29 oc30 oc31 oc32 oc33 oc34 oc35 oc36 oc37 oc38 oc39 oc40 oc41 oc42 kV1 kV2 kV3 kV4 kV5 kV6 kV7 kV8 kV9 kV10 kV11 kV12 kV13 kV14 kV15 kV16 kV17 kV18 kV19 kV20 kV21 kV22 kV23 kV24 kV25 kV26 kV27 kV28 kV29 kV30 kV31 kV32 kV33 kV34 kV35 kV36 kV37 kV38 kV39 kV40 kV41 kV42 dc1 dc2 dc3 dc4 dc5 dc6 dc7 dc8 dc9 dc10 dc11 dc12 dc13 dc14 dc15 dc16 dc17 dc18 dc19 dc20 dc21 dc22 dc23 dc24 dc25 dc26 dc27 dc28 dc29 dc30 dc31 dc32 dc33 dc34 dc35 dc36 dc37 dc38 dc39 dc40 dc41 dc42 pm1 pm2 pm3 pm4 pm5 pm6 pm7 pm8 pm9 pm10 pm11 pm12 pm13 pm14 pm15 pm16 pm17 pm18 pm19 pm20 pm21 pm22 pm23 pm24 pm25 pm26 pm27 pm28 pm29 pm30 pm31 pm32 pm33 pm34 pm35 pm36 pm37 pm38 pm39 pm40 pm41 pm42 cd1 cd2 cd3 cd4 cd5 cd6 cd7 cd8 cd9 cd10 cd11 cd12 cd13 cd14 cd15 cd16 cd17 cd18 cd19 cd20 cd21 cd22 cd23 cd24 cd25 cd26 cd27 cd28 cd29 cd30 cd31 cd32 cd33 cd34 cd35 cd36 cd37 cd38 cd39 cd40 cd41 cd42 ct1 ct2 ct3 ct4 ct5 ct6 ct7 ct8 ct9 ct10 ct11 ct12 ct13 ct14 ct15 ct16 ct17 ct18 ct19 ct20 ct21 ct22 ct23 ct24 ct25 ct26 ct27 ct28 ct29 ct30 ct31 ct32 ct33 ct34 ct35 ct36 ct37 ct38 ct39 ct40 ct41 ct42 : Value} {t8 : Addr} {to8 : Value} {td8 : Option Addr} {tn8 : Nat} {ts8 : Array (Option Value)} {u8_0 : Nat} {t17 : Addr} {to17 : Value} {td17 : Option Addr} {tn17 : Nat} {ts17 : Array (Option Value)} {u17_0 : Nat} {gt_GREATEST gt_HEAVIEST gt_LEAST gt_MOST : Nat} (X : K.In h) (G : h.Ns mainGlobals mg) (hfa : mg "law" = some (.ref fa))
    (aE_SiltError : PySem.W.nsIn K mainGlobals "SiltError" = some (some (.ref X_SiltError)))
    (kE_SiltError : PySem.W.keepIn K (.ref X_SiltError) = true)
    (xE_SiltError : PySem.W.excIn K X_SiltError [.type "ValueError", .type "Exception", .type "BaseException", .type "object"] "ValueError.__new__" = true)
    (sE_SiltError : PySem.W.subIn K (.ref X_SiltError) (.type "BaseException") = some true)
    (tE_SiltError : PySem.W.typeIn K (.ref X_SiltError) = some (.type "type"))
    (iE_SiltError : PySem.W.isClsIn K X_SiltError = true)
    (rE_SiltError : PySem.W.subIn K (.ref X_SiltError) (.ref X_SiltError) = some true)
    (aE_BadDay : PySem.W.nsIn K mainGlobals "BadDay" = some (some (.ref X_BadDay)))
    (kE_BadDay : PySem.W.keepIn K (.ref X_BadDay) = true)
    (xE_BadDay : PySem.W.excIn K X_BadDay [.type "ValueError", .type "Exception", .type "BaseException", .type "object"] "ValueError.__new__" = true)
    (sE_BadDay : PySem.W.subIn K (.ref X_BadDay) (.type "BaseException") = some true)
    (tE_BadDay : PySem.W.typeIn K (.ref X_BadDay) = some (.type "type"))
    (iE_BadDay : PySem.W.isClsIn K X_BadDay = true)
    (rE_BadDay : PySem.W.subIn K (.ref X_BadDay) (.ref X_BadDay) = some true)
    (aE_BadWeights : PySem.W.nsIn K mainGlobals "BadWeights" = some (some (.ref X_BadWeights)))
    (kE_BadWeights : PySem.W.keepIn K (.ref X_BadWeights) = true)
    (xE_BadWeights : PySem.W.excIn K X_BadWeights [.type "ValueError", .type "Exception", .type "BaseException", .type "object"] "ValueError.__new__" = true)
    (sE_BadWeights : PySem.W.subIn K (.ref X_BadWeights) (.type "BaseException") = some true)
    (tE_BadWeights : PySem.W.typeIn K (.ref X_BadWeights) = some (.type "type"))
    (iE_BadWeights : PySem.W.isClsIn K X_BadWeights = true)
    (rE_BadWeights : PySem.W.subIn K (.ref X_BadWeights) (.ref X_BadWeights) = some true)
    (aC_Rule : PySem.W.nsIn K mainGlobals "Rule" = some (some (.ref C)))
    (aC_Weights : PySem.W.nsIn K mainGlobals "Weights" = some (some (.ref A_Weights)))
    (a1 : PySem.W.nsIn K mainGlobals "_law_number" = some (some (.ref f1)))
    (a2 : PySem.W.nsIn K mainGlobals "_law_take" = some (some (.ref f2)))
    (a3 : PySem.W.nsIn K mainGlobals "_law_pick" = some (some (.ref f3)))
    (a4 : PySem.W.nsIn K mainGlobals "_law_pair" = some (some (.ref f4)))
    (a5 : PySem.W.nsIn K mainGlobals "_law_rule" = some (some (.ref f5)))
    (a6 : PySem.W.nsIn K mainGlobals "_law_tail" = some (some (.ref f6)))
    (a7 : PySem.W.nsIn K mainGlobals "is_part" = some (some (.ref f7)))
    (a8 : PySem.W.nsIn K mainGlobals "is_whole" = some (some (.ref f8)))
    (a9 : PySem.W.nsIn K mainGlobals "is_pair" = some (some (.ref f9)))
    (a10 : PySem.W.nsIn K mainGlobals "_root" = some (some (.ref f10)))
    (a11 : PySem.W.nsIn K mainGlobals "shortest" = some (some (.ref f11)))
    (a12 : PySem.W.findIn K (.ref C) "__init__" = some (some (.ref f12)))
    (a13 : PySem.W.nsIn K mainGlobals "_law_far" = some (some (.ref f13)))
    (a14 : PySem.W.nsIn K mainGlobals "told_at" = some (some (.ref f14)))
    (a15 : PySem.W.findIn K (.ref C) "__getitem__" = some (some (.ref f15)))
    (a16 : PySem.W.nsIn K mainGlobals "need_rule" = some (some (.ref f16)))
    (a17 : PySem.W.nsIn K mainGlobals "need_number" = some (some (.ref f17)))
    (a18 : PySem.W.nsIn K mainGlobals "times_baked" = some (some (.ref f18)))
    (a19 : PySem.W.nsIn K mainGlobals "made" = some (some (.ref f19)))
    (a20 : PySem.W.nsIn K mainGlobals "_law_at" = some (some (.ref f20)))
    (a21 : PySem.W.nsIn K mainGlobals "digits" = some (some (.ref f21)))
    (a22 : PySem.W.nsIn K mainGlobals "count" = some (some (.ref f22)))
    (a23 : PySem.W.nsIn K mainGlobals "work" = some (some (.ref f23)))
    (a24 : PySem.W.findIn K (.ref C) "size" = some (some (.ref f24)))
    (a25 : PySem.W.nsIn K mainGlobals "layers" = some (some (.ref f25)))
    (a26 : PySem.W.nsIn K mainGlobals "baked" = some (some (.ref f26)))
    (a27 : PySem.W.findIn K (.ref C) "owed" = some (some (.ref f27)))
    (a28 : PySem.W.nsIn K mainGlobals "day_made" = some (some (.ref f28)))
    (a29 : PySem.W.nsIn K mainGlobals "next_baked" = some (some (.ref f29)))
    (a30 : PySem.W.nsIn K mainGlobals "place" = some (some (.ref f30)))
    (a31 : PySem.W.nsIn K mainGlobals "need_weights" = some (some (.ref f31)))
    (a32 : PySem.W.findIn K (.ref A_Weights) "__getitem__" = some (some (.ref f32)))
    (a33 : PySem.W.findIn K (.ref A_Weights) "total" = some (some (.ref f33)))
    (a34 : PySem.W.nsIn K mainGlobals "weighed" = some (some (.ref f34)))
    (a35 : PySem.W.nsIn K mainGlobals "_is_weight" = some (some (.ref f35)))
    (a36 : PySem.W.findIn K (.ref A_Weights) "__init__" = some (some (.ref f36)))
    (a37 : PySem.W.nsIn K mainGlobals "greatest_digit" = some (some (.ref f37)))
    (a38 : PySem.W.nsIn K mainGlobals "least_digit" = some (some (.ref f38)))
    (a39 : PySem.W.nsIn K mainGlobals "is_digit" = some (some (.ref f39)))
    (a40 : PySem.W.nsIn K mainGlobals "day_of" = some (some (.ref f40)))
    (a41 : PySem.W.nsIn K mainGlobals "first_with" = some (some (.ref f41)))
    (a42 : PySem.W.nsIn K mainGlobals "law" = some (some (.ref f42)))
    (l1 : K.lookup f1 = some ⟨oc1, od1, .func (PySem.W.fnOf "_law_number" "_law_number" (defArgs s__law_number) (defBody s__law_number) (defScope s__law_number) .none kV1 dc1 pm1 an1 cd1 ct1), sl1⟩)
    (c1 : PySem.W.codeIn K cd1 "_law_number" = true)
    (k1 : PySem.W.keepIn K (.ref f1) = true)
    (l2 : K.lookup f2 = some ⟨oc2, od2, .func (PySem.W.fnOf "_law_take" "_law_take" (defArgs s__law_take) (defBody s__law_take) (defScope s__law_take) .none kV2 dc2 pm2 an2 cd2 ct2), sl2⟩)
    (c2 : PySem.W.codeIn K cd2 "_law_take" = true)
    (k2 : PySem.W.keepIn K (.ref f2) = true)
    (l3 : K.lookup f3 = some ⟨oc3, od3, .func (PySem.W.fnOf "_law_pick" "_law_pick" (defArgs s__law_pick) (defBody s__law_pick) (defScope s__law_pick) .none kV3 dc3 pm3 an3 cd3 ct3), sl3⟩)
    (c3 : PySem.W.codeIn K cd3 "_law_pick" = true)
    (k3 : PySem.W.keepIn K (.ref f3) = true)
    (l4 : K.lookup f4 = some ⟨oc4, od4, .func (PySem.W.fnOf "_law_pair" "_law_pair" (defArgs s__law_pair) (defBody s__law_pair) (defScope s__law_pair) .none kV4 dc4 pm4 an4 cd4 ct4), sl4⟩)
    (c4 : PySem.W.codeIn K cd4 "_law_pair" = true)
    (k4 : PySem.W.keepIn K (.ref f4) = true)
    (l5 : K.lookup f5 = some ⟨oc5, od5, .func (PySem.W.fnOf "_law_rule" "_law_rule" (defArgs s__law_rule) (defBody s__law_rule) (defScope s__law_rule) .none kV5 dc5 pm5 an5 cd5 ct5), sl5⟩)
    (c5 : PySem.W.codeIn K cd5 "_law_rule" = true)
    (k5 : PySem.W.keepIn K (.ref f5) = true)
    (l6 : K.lookup f6 = some ⟨oc6, od6, .func (PySem.W.fnOf "_law_tail" "_law_tail" (defArgs s__law_tail) (defBody s__law_tail) (defScope s__law_tail) .none kV6 dc6 pm6 an6 cd6 ct6), sl6⟩)
    (c6 : PySem.W.codeIn K cd6 "_law_tail" = true)
    (k6 : PySem.W.keepIn K (.ref f6) = true)
    (l7 : K.lookup f7 = some ⟨oc7, od7, .func (PySem.W.fnOf "is_part" "is_part" (defArgs s_is_part) (defBody s_is_part) (defScope s_is_part) .none kV7 dc7 pm7 an7 cd7 ct7), sl7⟩)
    (c7 : PySem.W.codeIn K cd7 "is_part" = true)
    (k7 : PySem.W.keepIn K (.ref f7) = true)
    (l8 : K.lookup f8 = some ⟨oc8, od8, .func (PySem.W.fnOf "is_whole" "is_whole" (defArgs s_is_whole) (defBody s_is_whole) (defScope s_is_whole) (.ref t8) kV8 dc8 pm8 an8 cd8 ct8), sl8⟩)
    (c8 : PySem.W.codeIn K cd8 "is_whole" = true)
    (k8 : PySem.W.keepIn K (.ref f8) = true)
    (t8l : K.lookup t8 = some ⟨to8, td8, .seq #[.int 0 u8_0] tn8, ts8⟩)
    (l9 : K.lookup f9 = some ⟨oc9, od9, .func (PySem.W.fnOf "is_pair" "is_pair" (defArgs s_is_pair) (defBody s_is_pair) (defScope s_is_pair) .none kV9 dc9 pm9 an9 cd9 ct9), sl9⟩)
    (c9 : PySem.W.codeIn K cd9 "is_pair" = true)
    (k9 : PySem.W.keepIn K (.ref f9) = true)
    (l10 : K.lookup f10 = some ⟨oc10, od10, .func (PySem.W.fnOf "_root" "_root" (defArgs s__root) (defBody s__root) (defScope s__root) .none kV10 dc10 pm10 an10 cd10 ct10), sl10⟩)
    (c10 : PySem.W.codeIn K cd10 "_root" = true)
    (k10 : PySem.W.keepIn K (.ref f10) = true)
    (l11 : K.lookup f11 = some ⟨oc11, od11, .func (PySem.W.fnOf "shortest" "shortest" (defArgs s_shortest) (defBody s_shortest) (defScope s_shortest) .none kV11 dc11 pm11 an11 cd11 ct11), sl11⟩)
    (c11 : PySem.W.codeIn K cd11 "shortest" = true)
    (k11 : PySem.W.keepIn K (.ref f11) = true)
    (i12 : PySem.W.isFn K (.ref f12) = true)
    (l12 : K.lookup f12 = some ⟨oc12, od12, .func (PySem.W.fnOf "__init__" "Rule.__init__" (defArgs s_Rule___init__) (defBody s_Rule___init__) (defScope s_Rule___init__) .none kV12 dc12 pm12 an12 cd12 ct12), sl12⟩)
    (c12 : PySem.W.codeIn K cd12 "Rule.__init__" = true)
    (k12 : PySem.W.keepIn K (.ref f12) = true)
    (l13 : K.lookup f13 = some ⟨oc13, od13, .func (PySem.W.fnOf "_law_far" "_law_far" (defArgs s__law_far) (defBody s__law_far) (defScope s__law_far) .none kV13 dc13 pm13 an13 cd13 ct13), sl13⟩)
    (c13 : PySem.W.codeIn K cd13 "_law_far" = true)
    (k13 : PySem.W.keepIn K (.ref f13) = true)
    (l14 : K.lookup f14 = some ⟨oc14, od14, .func (PySem.W.fnOf "told_at" "told_at" (defArgs s_told_at) (defBody s_told_at) (defScope s_told_at) .none kV14 dc14 pm14 an14 cd14 ct14), sl14⟩)
    (c14 : PySem.W.codeIn K cd14 "told_at" = true)
    (k14 : PySem.W.keepIn K (.ref f14) = true)
    (i15 : PySem.W.isFn K (.ref f15) = true)
    (n15 : PySem.W.fnIn K f15 = true)
    (l15 : K.lookup f15 = some ⟨oc15, od15, .func (PySem.W.fnOf "__getitem__" "Rule.__getitem__" (defArgs s_Rule___getitem__) (defBody s_Rule___getitem__) (defScope s_Rule___getitem__) .none kV15 dc15 pm15 an15 cd15 ct15), sl15⟩)
    (c15 : PySem.W.codeIn K cd15 "Rule.__getitem__" = true)
    (k15 : PySem.W.keepIn K (.ref f15) = true)
    (l16 : K.lookup f16 = some ⟨oc16, od16, .func (PySem.W.fnOf "need_rule" "need_rule" (defArgs s_need_rule) (defBody s_need_rule) (defScope s_need_rule) .none kV16 dc16 pm16 an16 cd16 ct16), sl16⟩)
    (c16 : PySem.W.codeIn K cd16 "need_rule" = true)
    (k16 : PySem.W.keepIn K (.ref f16) = true)
    (l17 : K.lookup f17 = some ⟨oc17, od17, .func (PySem.W.fnOf "need_number" "need_number" (defArgs s_need_number) (defBody s_need_number) (defScope s_need_number) (.ref t17) kV17 dc17 pm17 an17 cd17 ct17), sl17⟩)
    (c17 : PySem.W.codeIn K cd17 "need_number" = true)
    (k17 : PySem.W.keepIn K (.ref f17) = true)
    (t17l : K.lookup t17 = some ⟨to17, td17, .seq #[.int 0 u17_0] tn17, ts17⟩)
    (l18 : K.lookup f18 = some ⟨oc18, od18, .func (PySem.W.fnOf "times_baked" "times_baked" (defArgs s_times_baked) (defBody s_times_baked) (defScope s_times_baked) .none kV18 dc18 pm18 an18 cd18 ct18), sl18⟩)
    (c18 : PySem.W.codeIn K cd18 "times_baked" = true)
    (k18 : PySem.W.keepIn K (.ref f18) = true)
    (l19 : K.lookup f19 = some ⟨oc19, od19, .func (PySem.W.fnOf "made" "made" (defArgs s_made) (defBody s_made) (defScope s_made) .none kV19 dc19 pm19 an19 cd19 ct19), sl19⟩)
    (c19 : PySem.W.codeIn K cd19 "made" = true)
    (k19 : PySem.W.keepIn K (.ref f19) = true)
    (l20 : K.lookup f20 = some ⟨oc20, od20, .func (PySem.W.fnOf "_law_at" "_law_at" (defArgs s__law_at) (defBody s__law_at) (defScope s__law_at) .none kV20 dc20 pm20 an20 cd20 ct20), sl20⟩)
    (c20 : PySem.W.codeIn K cd20 "_law_at" = true)
    (k20 : PySem.W.keepIn K (.ref f20) = true)
    (l21 : K.lookup f21 = some ⟨oc21, od21, .func (PySem.W.fnOf "digits" "digits" (defArgs s_digits) (defBody s_digits) (defScope s_digits) .none kV21 dc21 pm21 an21 cd21 ct21), sl21⟩)
    (c21 : PySem.W.codeIn K cd21 "digits" = true)
    (k21 : PySem.W.keepIn K (.ref f21) = true)
    (l22 : K.lookup f22 = some ⟨oc22, od22, .func (PySem.W.fnOf "count" "count" (defArgs s_count) (defBody s_count) (defScope s_count) .none kV22 dc22 pm22 an22 cd22 ct22), sl22⟩)
    (c22 : PySem.W.codeIn K cd22 "count" = true)
    (k22 : PySem.W.keepIn K (.ref f22) = true)
    (l23 : K.lookup f23 = some ⟨oc23, od23, .func (PySem.W.fnOf "work" "work" (defArgs s_work) (defBody s_work) (defScope s_work) .none kV23 dc23 pm23 an23 cd23 ct23), sl23⟩)
    (c23 : PySem.W.codeIn K cd23 "work" = true)
    (k23 : PySem.W.keepIn K (.ref f23) = true)
    (i24 : PySem.W.isFn K (.ref f24) = true)
    (l24 : K.lookup f24 = some ⟨oc24, od24, .func (PySem.W.fnOf "size" "Rule.size" (defArgs s_Rule_size) (defBody s_Rule_size) (defScope s_Rule_size) .none kV24 dc24 pm24 an24 cd24 ct24), sl24⟩)
    (c24 : PySem.W.codeIn K cd24 "Rule.size" = true)
    (k24 : PySem.W.keepIn K (.ref f24) = true)
    (l25 : K.lookup f25 = some ⟨oc25, od25, .func (PySem.W.fnOf "layers" "layers" (defArgs s_layers) (defBody s_layers) (defScope s_layers) .none kV25 dc25 pm25 an25 cd25 ct25), sl25⟩)
    (c25 : PySem.W.codeIn K cd25 "layers" = true)
    (k25 : PySem.W.keepIn K (.ref f25) = true)
    (l26 : K.lookup f26 = some ⟨oc26, od26, .func (PySem.W.fnOf "baked" "baked" (defArgs s_baked) (defBody s_baked) (defScope s_baked) .none kV26 dc26 pm26 an26 cd26 ct26), sl26⟩)
    (c26 : PySem.W.codeIn K cd26 "baked" = true)
    (k26 : PySem.W.keepIn K (.ref f26) = true)
    (i27 : PySem.W.isFn K (.ref f27) = true)
    (l27 : K.lookup f27 = some ⟨oc27, od27, .func (PySem.W.fnOf "owed" "Rule.owed" (defArgs s_Rule_owed) (defBody s_Rule_owed) (defScope s_Rule_owed) .none kV27 dc27 pm27 an27 cd27 ct27), sl27⟩)
    (c27 : PySem.W.codeIn K cd27 "Rule.owed" = true)
    (k27 : PySem.W.keepIn K (.ref f27) = true)
    (l28 : K.lookup f28 = some ⟨oc28, od28, .func (PySem.W.fnOf "day_made" "day_made" (defArgs s_day_made) (defBody s_day_made) (defScope s_day_made) .none kV28 dc28 pm28 an28 cd28 ct28), sl28⟩)
    (c28 : PySem.W.codeIn K cd28 "day_made" = true)
    (k28 : PySem.W.keepIn K (.ref f28) = true)
    (l29 : K.lookup f29 = some ⟨oc29, od29, .func (PySem.W.fnOf "next_baked" "next_baked" (defArgs s_next_baked) (defBody s_next_baked) (defScope s_next_baked) .none kV29 dc29 pm29 an29 cd29 ct29), sl29⟩)
    (c29 : PySem.W.codeIn K cd29 "next_baked" = true)
    (k29 : PySem.W.keepIn K (.ref f29) = true)
    (l30 : K.lookup f30 = some ⟨oc30, od30, .func (PySem.W.fnOf "place" "place" (defArgs s_place) (defBody s_place) (defScope s_place) .none kV30 dc30 pm30 an30 cd30 ct30), sl30⟩)
    (c30 : PySem.W.codeIn K cd30 "place" = true)
    (k30 : PySem.W.keepIn K (.ref f30) = true)
    (l31 : K.lookup f31 = some ⟨oc31, od31, .func (PySem.W.fnOf "need_weights" "need_weights" (defArgs s_need_weights) (defBody s_need_weights) (defScope s_need_weights) .none kV31 dc31 pm31 an31 cd31 ct31), sl31⟩)
    (c31 : PySem.W.codeIn K cd31 "need_weights" = true)
    (k31 : PySem.W.keepIn K (.ref f31) = true)
    (i32 : PySem.W.isFn K (.ref f32) = true)
    (n32 : PySem.W.fnIn K f32 = true)
    (l32 : K.lookup f32 = some ⟨oc32, od32, .func (PySem.W.fnOf "__getitem__" "Weights.__getitem__" (defArgs s_Weights___getitem__) (defBody s_Weights___getitem__) (defScope s_Weights___getitem__) .none kV32 dc32 pm32 an32 cd32 ct32), sl32⟩)
    (c32 : PySem.W.codeIn K cd32 "Weights.__getitem__" = true)
    (k32 : PySem.W.keepIn K (.ref f32) = true)
    (i33 : PySem.W.isFn K (.ref f33) = true)
    (l33 : K.lookup f33 = some ⟨oc33, od33, .func (PySem.W.fnOf "total" "Weights.total" (defArgs s_Weights_total) (defBody s_Weights_total) (defScope s_Weights_total) .none kV33 dc33 pm33 an33 cd33 ct33), sl33⟩)
    (c33 : PySem.W.codeIn K cd33 "Weights.total" = true)
    (k33 : PySem.W.keepIn K (.ref f33) = true)
    (l34 : K.lookup f34 = some ⟨oc34, od34, .func (PySem.W.fnOf "weighed" "weighed" (defArgs s_weighed) (defBody s_weighed) (defScope s_weighed) .none kV34 dc34 pm34 an34 cd34 ct34), sl34⟩)
    (c34 : PySem.W.codeIn K cd34 "weighed" = true)
    (k34 : PySem.W.keepIn K (.ref f34) = true)
    (l35 : K.lookup f35 = some ⟨oc35, od35, .func (PySem.W.fnOf "_is_weight" "_is_weight" (defArgs s__is_weight) (defBody s__is_weight) (defScope s__is_weight) .none kV35 dc35 pm35 an35 cd35 ct35), sl35⟩)
    (c35 : PySem.W.codeIn K cd35 "_is_weight" = true)
    (k35 : PySem.W.keepIn K (.ref f35) = true)
    (i36 : PySem.W.isFn K (.ref f36) = true)
    (l36 : K.lookup f36 = some ⟨oc36, od36, .func (PySem.W.fnOf "__init__" "Weights.__init__" (defArgs s_Weights___init__) (defBody s_Weights___init__) (defScope s_Weights___init__) .none kV36 dc36 pm36 an36 cd36 ct36), sl36⟩)
    (c36 : PySem.W.codeIn K cd36 "Weights.__init__" = true)
    (k36 : PySem.W.keepIn K (.ref f36) = true)
    (l37 : K.lookup f37 = some ⟨oc37, od37, .func (PySem.W.fnOf "greatest_digit" "greatest_digit" (defArgs s_greatest_digit) (defBody s_greatest_digit) (defScope s_greatest_digit) .none kV37 dc37 pm37 an37 cd37 ct37), sl37⟩)
    (c37 : PySem.W.codeIn K cd37 "greatest_digit" = true)
    (k37 : PySem.W.keepIn K (.ref f37) = true)
    (l38 : K.lookup f38 = some ⟨oc38, od38, .func (PySem.W.fnOf "least_digit" "least_digit" (defArgs s_least_digit) (defBody s_least_digit) (defScope s_least_digit) .none kV38 dc38 pm38 an38 cd38 ct38), sl38⟩)
    (c38 : PySem.W.codeIn K cd38 "least_digit" = true)
    (k38 : PySem.W.keepIn K (.ref f38) = true)
    (l39 : K.lookup f39 = some ⟨oc39, od39, .func (PySem.W.fnOf "is_digit" "is_digit" (defArgs s_is_digit) (defBody s_is_digit) (defScope s_is_digit) .none kV39 dc39 pm39 an39 cd39 ct39), sl39⟩)
    (c39 : PySem.W.codeIn K cd39 "is_digit" = true)
    (k39 : PySem.W.keepIn K (.ref f39) = true)
    (l40 : K.lookup f40 = some ⟨oc40, od40, .func (PySem.W.fnOf "day_of" "day_of" (defArgs s_day_of) (defBody s_day_of) (defScope s_day_of) .none kV40 dc40 pm40 an40 cd40 ct40), sl40⟩)
    (c40 : PySem.W.codeIn K cd40 "day_of" = true)
    (k40 : PySem.W.keepIn K (.ref f40) = true)
    (l41 : K.lookup f41 = some ⟨oc41, od41, .func (PySem.W.fnOf "first_with" "first_with" (defArgs s_first_with) (defBody s_first_with) (defScope s_first_with) .none kV41 dc41 pm41 an41 cd41 ct41), sl41⟩)
    (c41 : PySem.W.codeIn K cd41 "first_with" = true)
    (k41 : PySem.W.keepIn K (.ref f41) = true)
    (l42 : K.lookup f42 = some ⟨oc42, od42, .func (PySem.W.fnOf "law" "law" (defArgs s_law) (defBody s_law) (defScope s_law) .none kV42 dc42 pm42 an42 cd42 ct42), sl42⟩)
    (c42 : PySem.W.codeIn K cd42 "law" = true)
    (k42 : PySem.W.keepIn K (.ref f42) = true)
    (ty_Rule : PySem.W.typeIn K (.ref C) = some (.type "type"))
    (pg_Rule : PySem.W.plainGet K C Str.empty = true)
    (hd_Rule : PySem.W.hasDictIn K C = true)
    (po_Rule : PySem.W.plainOver K C = true)
    (sa_Rule : PySem.W.findIn K (.ref C) "__setattr__" = some (some (.builtin "object.__setattr__")))
    (mk_Rule : PySem.W.makesIn K C = true)
    (kc_Rule : PySem.W.keepIn K (.ref C) = true)
    (n_Rule_front : PySem.W.findIn K (.ref C) "front" = some none)
    (n_Rule_period : PySem.W.findIn K (.ref C) "period" = some none)
    (ha_Rule : PySem.W.findIn K (.ref C) "__class__" = some (some (.builtin "object.__class__")))
    (hm_Rule : PySem.W.mroIn K C (.type "object") = some true)
    (ty_Weights : PySem.W.typeIn K (.ref A_Weights) = some (.type "type"))
    (pg_Weights : PySem.W.plainGet K A_Weights Str.empty = true)
    (hd_Weights : PySem.W.hasDictIn K A_Weights = true)
    (po_Weights : PySem.W.plainOver K A_Weights = true)
    (sa_Weights : PySem.W.findIn K (.ref A_Weights) "__setattr__" = some (some (.builtin "object.__setattr__")))
    (mk_Weights : PySem.W.makesIn K A_Weights = true)
    (kc_Weights : PySem.W.keepIn K (.ref A_Weights) = true)
    (n_Weights_front : PySem.W.findIn K (.ref A_Weights) "front" = some none)
    (n_Weights_period : PySem.W.findIn K (.ref A_Weights) "period" = some none)
    (ha_Weights : PySem.W.findIn K (.ref A_Weights) "__class__" = some (some (.builtin "object.__class__")))
    (hm_Weights : PySem.W.mroIn K A_Weights (.type "object") = some true)
    (hn : PySem.W.specialIn K (.builtin "object.__class__") "__get__" = some (some (.builtin "getset_descriptor.__get__")))
    (ht : PySem.W.takesIn K (.builtin "object.__class__") = some true)
    (z_abs : PySem.W.nsIn K mainGlobals "abs" = some none)
    (z_all : PySem.W.nsIn K mainGlobals "all" = some none)
    (z_bool : PySem.W.nsIn K mainGlobals "bool" = some none)
    (z_divmod : PySem.W.nsIn K mainGlobals "divmod" = some none)
    (z_enumerate : PySem.W.nsIn K mainGlobals "enumerate" = some none)
    (z_int : PySem.W.nsIn K mainGlobals "int" = some none)
    (z_isinstance : PySem.W.nsIn K mainGlobals "isinstance" = some none)
    (z_len : PySem.W.nsIn K mainGlobals "len" = some none)
    (z_list : PySem.W.nsIn K mainGlobals "list" = some none)
    (z_max : PySem.W.nsIn K mainGlobals "max" = some none)
    (z_min : PySem.W.nsIn K mainGlobals "min" = some none)
    (z_range : PySem.W.nsIn K mainGlobals "range" = some none)
    (z_reversed : PySem.W.nsIn K mainGlobals "reversed" = some none)
    (z_sum : PySem.W.nsIn K mainGlobals "sum" = some none)
    (z_tuple : PySem.W.nsIn K mainGlobals "tuple" = some none)
    (g_GREATEST : PySem.W.nsIn K mainGlobals "GREATEST" = some (some (.int 12 gt_GREATEST)))
    (g_HEAVIEST : PySem.W.nsIn K mainGlobals "HEAVIEST" = some (some (.int 100 gt_HEAVIEST)))
    (g_LEAST : PySem.W.nsIn K mainGlobals "LEAST" = some (some (.int 2 gt_LEAST)))
    (g_MOST : PySem.W.nsIn K mainGlobals "MOST" = some (some (.int 6 gt_MOST)))
    (m_bool : PySem.W.mroIn K C (.type "bool") = some false)
    (m_int : PySem.W.mroIn K C (.type "int") = some false)
    (m_list : PySem.W.mroIn K C (.type "list") = some false)
    (m_tuple : PySem.W.mroIn K C (.type "tuple") = some false) :
    ∃ fd : FuncData, (∀ (s : Shared) (v : Value), BindsTo s fd ⟨[v], []⟩ [("script", v)]) ∧ ∀ base : Heap, K.In base → base.Ns mainGlobals mg → FnOk l.prog w K mg base (L2.CX l.prog w) 20 fa fd ["script"] (spOf K sp_law) := by
  have e := hfa.symm.trans (PySem.W.mg_of X G a42)
  cases e
  have B : Bl K mg C A_Weights := { isc := isc_ok ⟨⟨pg_Rule, hd_Rule, po_Rule, sa_Rule⟩, ha_Rule, hn, ht, hm_Rule⟩, tn := tn_ok C, isc_Weights := isc_ok ⟨⟨pg_Weights, hd_Weights, po_Weights, sa_Weights⟩, ha_Weights, hn, ht, hm_Weights⟩, tn_Weights := tn_ok A_Weights, abs := PySem.W.mg_none_of X G z_abs, all := PySem.W.mg_none_of X G z_all, bool := PySem.W.mg_none_of X G z_bool, divmod := PySem.W.mg_none_of X G z_divmod, enumerate := PySem.W.mg_none_of X G z_enumerate, int := PySem.W.mg_none_of X G z_int, isinstance := PySem.W.mg_none_of X G z_isinstance, len := PySem.W.mg_none_of X G z_len, list := PySem.W.mg_none_of X G z_list, max := PySem.W.mg_none_of X G z_max, min := PySem.W.mg_none_of X G z_min, range := PySem.W.mg_none_of X G z_range, reversed := PySem.W.mg_none_of X G z_reversed, sum := PySem.W.mg_none_of X G z_sum, tuple := PySem.W.mg_none_of X G z_tuple, GREATEST := ⟨_, PySem.W.mg_of X G g_GREATEST⟩, HEAVIEST := ⟨_, PySem.W.mg_of X G g_HEAVIEST⟩, LEAST := ⟨_, PySem.W.mg_of X G g_LEAST⟩, MOST := ⟨_, PySem.W.mg_of X G g_MOST⟩, k_Rule := k_own_ok hm_Rule ty_Rule, k_Weights := k_own_ok hm_Weights ty_Weights, k_bool := kit_all (fun a ha => kit_ty (by revert a; decide +kernel)) ((kit_cb (by decide +kernel) m_bool).trans (by simp)), k_int := k_int_ok m_int, k_list_tuple := k_lt_ok m_list m_tuple, k_tuple := kit_all (fun a ha => kit_ty (by revert a; decide +kernel)) ((kit_cb (by decide +kernel) m_tuple).trans (by simp)) }
  have R_Rule : RuleS K mg C := ⟨⟨pg_Rule, hd_Rule, po_Rule, sa_Rule⟩, PySem.W.mg_of X G aC_Rule, n_Rule_front, n_Rule_period⟩
  have R_Weights : WeightsS K mg A_Weights := ⟨⟨pg_Weights, hd_Weights, po_Weights, sa_Weights⟩, PySem.W.mg_of X G aC_Weights, n_Weights_front, n_Weights_period⟩
  have E_SiltError : ErrS K mg "SiltError" X_SiltError := ⟨PySem.W.mg_of X G aE_SiltError, kE_SiltError, xE_SiltError, sE_SiltError, tE_SiltError, exm_me sE_SiltError iE_SiltError tE_SiltError rE_SiltError⟩
  have E_BadDay : ErrS K mg "BadDay" X_BadDay := ⟨PySem.W.mg_of X G aE_BadDay, kE_BadDay, xE_BadDay, sE_BadDay, tE_BadDay, exm_me sE_BadDay iE_BadDay tE_BadDay rE_BadDay⟩
  have E_BadWeights : ErrS K mg "BadWeights" X_BadWeights := ⟨PySem.W.mg_of X G aE_BadWeights, kE_BadWeights, xE_BadWeights, sE_BadWeights, tE_BadWeights, exm_me sE_BadWeights iE_BadWeights tE_BadWeights rE_BadWeights⟩
  refine ⟨PySem.W.fnOf "law" "law" (defArgs s_law) (defBody s_law) (defScope s_law) .none kV42 dc42 pm42 an42 cd42 ct42, fun s v => .of_eq rfl, fun base _ _ => ?_⟩
  have F1 := fun_mk (st := s__law_number) l1 c1 k1
  have C__law_number := cal__law_number (P := l.prog) (w := w) (base := base) F1 (PySem.W.mg_of X G a1) B R_Rule R_Weights E_SiltError E_BadDay E_BadWeights 
  have F2 := fun_mk (st := s__law_take) l2 c2 k2
  have C__law_take := cal__law_take (P := l.prog) (w := w) (base := base) F2 (PySem.W.mg_of X G a2) B R_Rule R_Weights E_SiltError E_BadDay E_BadWeights C__law_number
  have F3 := fun_mk (st := s__law_pick) l3 c3 k3
  have C__law_pick := cal__law_pick (P := l.prog) (w := w) (base := base) F3 (PySem.W.mg_of X G a3) B R_Rule R_Weights E_SiltError E_BadDay E_BadWeights C__law_take
  have F4 := fun_mk (st := s__law_pair) l4 c4 k4
  have C__law_pair := cal__law_pair (P := l.prog) (w := w) (base := base) F4 (PySem.W.mg_of X G a4) B R_Rule R_Weights E_SiltError E_BadDay E_BadWeights C__law_take C__law_pick
  have F5 := fun_mk (st := s__law_rule) l5 c5 k5
  have C__law_rule := cal__law_rule (P := l.prog) (w := w) (base := base) F5 (PySem.W.mg_of X G a5) B R_Rule R_Weights E_SiltError E_BadDay E_BadWeights C__law_pick C__law_pair
  have F6 := fun_mk (st := s__law_tail) l6 c6 k6
  have C__law_tail := cal__law_tail (P := l.prog) (w := w) (base := base) F6 (PySem.W.mg_of X G a6) B R_Rule R_Weights E_SiltError E_BadDay E_BadWeights 
  have F7 := fun_mk (st := s_is_part) l7 c7 k7
  have C_is_part := cal_is_part (P := l.prog) (w := w) (base := base) F7 (PySem.W.mg_of X G a7) B R_Rule R_Weights E_SiltError E_BadDay E_BadWeights 
  have F8 : FunD K "is_whole" "is_whole" (defArgs s_is_whole) (defBody s_is_whole) (defScope s_is_whole) [.int 0] [] f8 _ := ⟨⟨_, _, _, _, _, _, _, _, _, _, rfl, l8, c8, .inr ⟨by simp, _, _, [.int 0 u8_0], _, rfl, t8l, rfl, .cons ⟨_, rfl⟩ .nil⟩, .inl rfl⟩, k8⟩
  have C_is_whole : CalD l.prog w K mg base 1 "is_whole" P_is_whole sp_is_whole [.int 0] := by
    obtain ⟨v0, r0, b0⟩ := F8.binds1 (ps := P_is_whole) 2 1 (by simp) rfl fun _ _ _ _ _ _ _ us its hu hi => match us, hu, its, hi with | [_, _], _, [_], _ => ⟨_, rfl, rfl⟩
    obtain ⟨v1, r1, b1⟩ := F8.binds1 (ps := P_is_whole) 1 0 (by simp) rfl fun _ _ _ _ _ _ _ us its hu hi => match us, hu, its, hi with | [_], _, [_], _ => ⟨_, rfl, rfl⟩
    have e0 : v0 = [] := by cases r0; rfl
    subst e0
    exact ⟨⟨_, _, [.int 0], v1, ok_is_whole F8 B R_Rule R_Weights E_SiltError E_BadDay E_BadWeights , PySem.W.mg_of X G a8, k8, b0, r1, fun H => .cons (.int 0) .nil, b1⟩, mono_spF⟩
  have F9 := fun_mk (st := s_is_pair) l9 c9 k9
  have C_is_pair := cal_is_pair (P := l.prog) (w := w) (base := base) F9 (PySem.W.mg_of X G a9) B R_Rule R_Weights E_SiltError E_BadDay E_BadWeights C_is_whole
  have F10 := fun_mk (st := s__root) l10 c10 k10
  have C__root_9 : Cal l.prog w K mg base 1 "_root" P__root (sp__root (Int×Int)) := cal__root (P := l.prog) (w := w) (base := base) F10 (PySem.W.mg_of X G a10) B R_Rule R_Weights E_SiltError E_BadDay E_BadWeights 
  have F11 := fun_mk (st := s_shortest) l11 c11 k11
  have C_shortest_10 : Cal l.prog w K mg base 2 "shortest" P_shortest (sp_shortest (Int×Int)) := cal_shortest (P := l.prog) (w := w) (base := base) F11 (PySem.W.mg_of X G a11) B R_Rule R_Weights E_SiltError E_BadDay E_BadWeights C__root_9
  have F12 := fun_mk (st := s_Rule___init__) l12 c12 k12
  have C_Rule := cal_Rule (P := l.prog) (w := w) (base := base) F12 ⟨mk_Rule, a12, i12, kc_Rule⟩ B R_Rule R_Weights E_SiltError E_BadDay E_BadWeights C_is_part C_is_pair C_shortest_10
  have F13 := fun_mk (st := s__law_far) l13 c13 k13
  have C__law_far := cal__law_far (P := l.prog) (w := w) (base := base) F13 (PySem.W.mg_of X G a13) B R_Rule R_Weights E_SiltError E_BadDay E_BadWeights C__law_take C__law_pick
  have F14 := fun_mk (st := s_told_at) l14 c14 k14
  have C_told_at_13 : Cal l.prog w K mg base 1 "told_at" P_told_at (sp_told_at (Int×Int)) := cal_told_at (P := l.prog) (w := w) (base := base) F14 (PySem.W.mg_of X G a14) B R_Rule R_Weights E_SiltError E_BadDay E_BadWeights 
  have F15 := fun_mk (st := s_Rule___getitem__) l15 c15 k15
  have C_Rule___getitem__ := cal_Rule___getitem__ (P := l.prog) (w := w) (base := base) F15 a15 n15 i15 B R_Rule R_Weights E_SiltError E_BadDay E_BadWeights C_told_at_13
  have F16 := fun_mk (st := s_need_rule) l16 c16 k16
  have C_need_rule := cal_need_rule (P := l.prog) (w := w) (base := base) F16 (PySem.W.mg_of X G a16) B R_Rule R_Weights E_SiltError E_BadDay E_BadWeights 
  have F17 : FunD K "need_number" "need_number" (defArgs s_need_number) (defBody s_need_number) (defScope s_need_number) [.int 0] [] f17 _ := ⟨⟨_, _, _, _, _, _, _, _, _, _, rfl, l17, c17, .inr ⟨by simp, _, _, [.int 0 u17_0], _, rfl, t17l, rfl, .cons ⟨_, rfl⟩ .nil⟩, .inl rfl⟩, k17⟩
  have C_need_number : CalD l.prog w K mg base 2 "need_number" P_need_number sp_need_number [.int 0] := by
    obtain ⟨v0, r0, b0⟩ := F17.binds1 (ps := P_need_number) 2 1 (by simp) rfl fun _ _ _ _ _ _ _ us its hu hi => match us, hu, its, hi with | [_, _], _, [_], _ => ⟨_, rfl, rfl⟩
    obtain ⟨v1, r1, b1⟩ := F17.binds1 (ps := P_need_number) 1 0 (by simp) rfl fun _ _ _ _ _ _ _ us its hu hi => match us, hu, its, hi with | [_], _, [_], _ => ⟨_, rfl, rfl⟩
    have e0 : v0 = [] := by cases r0; rfl
    subst e0
    exact ⟨⟨_, _, [.int 0], v1, ok_need_number F17 B R_Rule R_Weights E_SiltError E_BadDay E_BadWeights C_is_whole, PySem.W.mg_of X G a17, k17, b0, r1, fun H => .cons (.int 0) .nil, b1⟩, mono_spF⟩
  have F18 := fun_mk (st := s_times_baked) l18 c18 k18
  have C_times_baked := cal_times_baked (P := l.prog) (w := w) (base := base) F18 (PySem.W.mg_of X G a18) B R_Rule R_Weights E_SiltError E_BadDay E_BadWeights 
  have F19 := fun_mk (st := s_made) l19 c19 k19
  have C_made := cal_made (P := l.prog) (w := w) (base := base) F19 (PySem.W.mg_of X G a19) B R_Rule R_Weights E_SiltError E_BadDay E_BadWeights C_Rule___getitem__ C_need_rule C_need_number C_times_baked
  have F20 := fun_mk (st := s__law_at) l20 c20 k20
  have C__law_at := cal__law_at (P := l.prog) (w := w) (base := base) F20 (PySem.W.mg_of X G a20) B R_Rule R_Weights E_SiltError E_BadDay E_BadWeights 
  have F21 := fun_mk (st := s_digits) l21 c21 k21
  have C_digits := cal_digits (P := l.prog) (w := w) (base := base) F21 (PySem.W.mg_of X G a21) B R_Rule R_Weights E_SiltError E_BadDay E_BadWeights C_Rule___getitem__ C_need_rule C_need_number C_times_baked
  have F22 := fun_mk (st := s_count) l22 c22 k22
  have C_count := cal_count (P := l.prog) (w := w) (base := base) F22 (PySem.W.mg_of X G a22) B R_Rule R_Weights E_SiltError E_BadDay E_BadWeights C_digits
  have F23 := fun_mk (st := s_work) l23 c23 k23
  have C_work := cal_work (P := l.prog) (w := w) (base := base) F23 (PySem.W.mg_of X G a23) B R_Rule R_Weights E_SiltError E_BadDay E_BadWeights C_Rule___getitem__ C_need_rule C_need_number C_times_baked
  have F24 := fun_mk (st := s_Rule_size) l24 c24 k24
  have C_Rule_size := cal_Rule_size (P := l.prog) (w := w) (base := base) F24 ⟨a24, i24, k24⟩ B R_Rule R_Weights E_SiltError E_BadDay E_BadWeights C_Rule___getitem__
  have F25 := fun_mk (st := s_layers) l25 c25 k25
  have C_layers := cal_layers (P := l.prog) (w := w) (base := base) F25 (PySem.W.mg_of X G a25) B R_Rule R_Weights E_SiltError E_BadDay E_BadWeights C_digits C_Rule_size C_Rule___getitem__
  have F26 := fun_mk (st := s_baked) l26 c26 k26
  have C_baked := cal_baked (P := l.prog) (w := w) (base := base) F26 (PySem.W.mg_of X G a26) B R_Rule R_Weights E_SiltError E_BadDay E_BadWeights C_Rule___getitem__ C_need_rule C_need_number C_times_baked
  have F27 := fun_mk (st := s_Rule_owed) l27 c27 k27
  have C_Rule_owed := cal_Rule_owed (P := l.prog) (w := w) (base := base) F27 ⟨a27, i27, k27⟩ B R_Rule R_Weights E_SiltError E_BadDay E_BadWeights C_Rule___getitem__
  have F28 := fun_mk (st := s_day_made) l28 c28 k28
  have C_day_made := cal_day_made (P := l.prog) (w := w) (base := base) F28 (PySem.W.mg_of X G a28) B R_Rule R_Weights E_SiltError E_BadDay E_BadWeights C_Rule_owed C_Rule_size C_need_rule C_need_number
  have F29 := fun_mk (st := s_next_baked) l29 c29 k29
  have C_next_baked := cal_next_baked (P := l.prog) (w := w) (base := base) F29 (PySem.W.mg_of X G a29) B R_Rule R_Weights E_SiltError E_BadDay E_BadWeights C_made C_day_made C_need_rule C_need_number
  have F30 := fun_mk (st := s_place) l30 c30 k30
  have C_place := cal_place (P := l.prog) (w := w) (base := base) F30 (PySem.W.mg_of X G a30) B R_Rule R_Weights E_SiltError E_BadDay E_BadWeights C_Rule___getitem__ C_need_rule C_need_number C_digits C_Rule_size
  have F31 := fun_mk (st := s_need_weights) l31 c31 k31
  have C_need_weights := cal_need_weights (P := l.prog) (w := w) (base := base) F31 (PySem.W.mg_of X G a31) B R_Rule R_Weights E_SiltError E_BadDay E_BadWeights 
  have C_told_at_31 : Cal l.prog w K mg base 1 "told_at" P_told_at (sp_told_at Int) := cal_told_at (P := l.prog) (w := w) (base := base) F14 (PySem.W.mg_of X G a14) B R_Rule R_Weights E_SiltError E_BadDay E_BadWeights 
  have F32 := fun_mk (st := s_Weights___getitem__) l32 c32 k32
  have C_Weights___getitem__ := cal_Weights___getitem__ (P := l.prog) (w := w) (base := base) F32 a32 n32 i32 B R_Rule R_Weights E_SiltError E_BadDay E_BadWeights C_told_at_31
  have F33 := fun_mk (st := s_Weights_total) l33 c33 k33
  have C_Weights_total := cal_Weights_total (P := l.prog) (w := w) (base := base) F33 ⟨a33, i33, k33⟩ B R_Rule R_Weights E_SiltError E_BadDay E_BadWeights C_Weights___getitem__
  have F34 := fun_mk (st := s_weighed) l34 c34 k34
  have C_weighed := cal_weighed (P := l.prog) (w := w) (base := base) F34 (PySem.W.mg_of X G a34) B R_Rule R_Weights E_SiltError E_BadDay E_BadWeights C_digits C_need_weights C_Weights_total
  have F35 := fun_mk (st := s__is_weight) l35 c35 k35
  have C__is_weight := cal__is_weight (P := l.prog) (w := w) (base := base) F35 (PySem.W.mg_of X G a35) B R_Rule R_Weights E_SiltError E_BadDay E_BadWeights C_is_whole
  have C__root_36 : Cal l.prog w K mg base 1 "_root" P__root (sp__root Int) := cal__root (P := l.prog) (w := w) (base := base) F10 (PySem.W.mg_of X G a10) B R_Rule R_Weights E_SiltError E_BadDay E_BadWeights 
  have C_shortest_37 : Cal l.prog w K mg base 2 "shortest" P_shortest (sp_shortest Int) := cal_shortest (P := l.prog) (w := w) (base := base) F11 (PySem.W.mg_of X G a11) B R_Rule R_Weights E_SiltError E_BadDay E_BadWeights C__root_36
  have F36 := fun_mk (st := s_Weights___init__) l36 c36 k36
  have C_Weights := cal_Weights (P := l.prog) (w := w) (base := base) F36 ⟨mk_Weights, a36, i36, kc_Weights⟩ B R_Rule R_Weights E_SiltError E_BadDay E_BadWeights C_is_part C__is_weight C_shortest_37
  have F37 := fun_mk (st := s_greatest_digit) l37 c37 k37
  have C_greatest_digit := cal_greatest_digit (P := l.prog) (w := w) (base := base) F37 (PySem.W.mg_of X G a37) B R_Rule R_Weights E_SiltError E_BadDay E_BadWeights 
  have F38 := fun_mk (st := s_least_digit) l38 c38 k38
  have C_least_digit := cal_least_digit (P := l.prog) (w := w) (base := base) F38 (PySem.W.mg_of X G a38) B R_Rule R_Weights E_SiltError E_BadDay E_BadWeights 
  have F39 := fun_mk (st := s_is_digit) l39 c39 k39
  have C_is_digit := cal_is_digit (P := l.prog) (w := w) (base := base) F39 (PySem.W.mg_of X G a39) B R_Rule R_Weights E_SiltError E_BadDay E_BadWeights C_is_whole C_least_digit C_greatest_digit
  have F40 := fun_mk (st := s_day_of) l40 c40 k40
  have C_day_of := cal_day_of (P := l.prog) (w := w) (base := base) F40 (PySem.W.mg_of X G a40) B R_Rule R_Weights E_SiltError E_BadDay E_BadWeights C_Rule___getitem__ C_need_rule C_is_digit
  have F41 := fun_mk (st := s_first_with) l41 c41 k41
  have C_first_with := cal_first_with (P := l.prog) (w := w) (base := base) F41 (PySem.W.mg_of X G a41) B R_Rule R_Weights E_SiltError E_BadDay E_BadWeights C_Rule___getitem__ C_need_rule C_need_number C_greatest_digit C_day_of
  have F42 := fun_mk (st := s_law) l42 c42 k42
  exact ok_law (P := l.prog) (w := w) (base := base) F42 B R_Rule R_Weights E_SiltError E_BadDay E_BadWeights C__law_rule C__law_tail C_Rule C__law_pick C__law_take C__law_far C_made C__law_at C_digits C_count C_work C_layers C_baked C_next_baked C_place C_weighed C_Weights C_first_with
theorem start_ok {K : PySem.W.Frag} {H : Hp} {a : Addr} {ns : List Int} (hl : ns.length ≤ 63) (hO : Only H) (hS : SqL K H a (ns.map V.int)) : spOf K sp_law [.ref a] H (fun v _ => v = .bl true) fun _ _ _ => False := by
  have noi : ∀ b C dx fs, H b ≠ some (.ins C dx fs) := fun b C dx fs h => by
    rcases hO b with z | ⟨o, xs, z⟩ <;> rw [h] at z <;> cases z
  have noo : ∀ b x, H b ≠ some (.own x) := fun b x h => by
    rcases hO b with z | ⟨o, xs, z⟩ <;> rw [h] at z <;> cases z
  have go : ∀ b : Bool, Rep K H (.ref a) (scrD b ns) → spOf K sp_law [.ref a] H (fun v _ => v = .bl true) fun _ _ _ => False := fun b r => by
    have rs := entry0 (K := K) (A := []) (H := H) (vs := [.ref a]) (ds := [scrD b ns]) (fun b C dx fs h => (noi b C dx fs h).elim) (fun c b h _ => nomatch h) (.cons (by
      have : hide [] H = H := funext fun b => hide_out (by simp)
      rw [this]; exact r) .nil)
    have e : hide [] H = H := funext fun b => hide_out (by simp)
    rw [e] at rs
    refine ⟨_, rs.1, (b, ns), rfl, rfl, hl, fun d hd v H' ro rt => ?_⟩
    subst hd
    cases rt; rfl
  rcases hS with h | h
  · exact go true (.lst h (reps_ints ns))
  · exact go false (.kls h (reps_ints ns))
theorem cx_no {P : Program} {w : World} (H : Hp) (s : Shared) (e : Value) (s' : Shared) (h : L2.CX P w [] H s (fun _ _ _ => False) e s') : False := by
  obtain ⟨a, B, H', cls, d, _, _, _, _, _, _, _, hE⟩ := h
  exact hE
theorem walk {l : PySem.W.OpenLaw} {q : Program} {loose : List Str} {XP : (Str → Option Value) → Heap → Prop} {YP : World → Heap → Prop} {d : DefRec} {K : Params → PySem.W.Frag} (hn : l.most = some 63) (hdf : d.params.defaults = [])
    (hY : ∀ (w : World) (h : Heap), YP w h → (K w.params).In h)
    (F : ∀ (w : World) (mg : Str → Option Value) (fa : Addr) (h : Heap), (K w.params).In h → h.Ns mainGlobals mg → mg d.name = some (.ref fa) →
      ∃ fd : FuncData, (∀ (s : Shared) (u : Value), BindsTo s fd ⟨[u], []⟩ [("script", u)]) ∧ ∀ base : Heap, (K w.params).In base → base.Ns mainGlobals mg → FnOk l.prog w (K w.params) mg base (L2.CX l.prog w) 20 fa fd ["script"] (spOf (K w.params) sp_law)) :
    PySem.W.WalkO q loose XP YP l.row.toRowW d [] (fun f vs => PySem.call f vs) :=
  L2.walk_of (n := 63) (k := 20) (x := "script") (CX := fun w => L2.CX l.prog w) (sp := fun w => spOf (K w.params) sp_law) hn (by decide) hdf ⟨rfl, by decide, by decide⟩ hY F (fun w H a ns hl hO hS => start_ok hl hO hS) fun w H s e s' h => cx_no H s e s' h
end L53

set_option Elab.async false
set_option linter.all false
set_option maxRecDepth 100000
set_option maxHeartbeats 0
open PySem PySem.W PyProof.Rows
set_option maxRecDepth 100000 in
set_option maxHeartbeats 0 in
theorem PySem.Challenge.cw_siltstore_k53_whole_tails_holds : PySem.Challenge.rw_siltstore_k53_whole_tails.Holds := by
  w_on; o_law; k_head; (case hw => w_witness2)
  k_fill
  refine L53.walk (l := PySem.Challenge.rw_siltstore_k53_whole_tails) rfl rfl (fun w h Y => by first | exact PySem.W.kIn_of Y | exact PySem.W.km_in_of Y) ?F
  case F =>
    intro w mg fa h KX G hmg
    refine' L53.all_mk KX G hmg ?aE_SiltError ?kE_SiltError ?xE_SiltError ?sE_SiltError ?tE_SiltError ?iE_SiltError ?rE_SiltError ?aE_BadDay ?kE_BadDay ?xE_BadDay ?sE_BadDay ?tE_BadDay ?iE_BadDay ?rE_BadDay ?aE_BadWeights ?kE_BadWeights ?xE_BadWeights ?sE_BadWeights ?tE_BadWeights ?iE_BadWeights ?rE_BadWeights ?aC_Rule ?aC_Weights ?a1 ?a2 ?a3 ?a4 ?a5 ?a6 ?a7 ?a8 ?a9 ?a10 ?a11 ?a12 ?a13 ?a14 ?a15 ?a16 ?a17 ?a18 ?a19 ?a20 ?a21 ?a22 ?a23 ?a24 ?a25 ?a26 ?a27 ?a28 ?a29 ?a30 ?a31 ?a32 ?a33 ?a34 ?a35 ?a36 ?a37 ?a38 ?a39 ?a40 ?a41 ?a42 ?l1 ?c1 ?k1 ?l2 ?c2 ?k2 ?l3 ?c3 ?k3 ?l4 ?c4 ?k4 ?l5 ?c5 ?k5 ?l6 ?c6 ?k6 ?l7 ?c7 ?k7 ?l8 ?c8 ?k8 ?t8l ?l9 ?c9 ?k9 ?l10 ?c10 ?k10 ?l11 ?c11 ?k11 ?i12 ?l12 ?c12 ?k12 ?l13 ?c13 ?k13 ?l14 ?c14 ?k14 ?i15 ?n15 ?l15 ?c15 ?k15 ?l16 ?c16 ?k16 ?l17 ?c17 ?k17 ?t17l ?l18 ?c18 ?k18 ?l19 ?c19 ?k19 ?l20 ?c20 ?k20 ?l21 ?c21 ?k21 ?l22 ?c22 ?k22 ?l23 ?c23 ?k23 ?i24 ?l24 ?c24 ?k24 ?l25 ?c25 ?k25 ?l26 ?c26 ?k26 ?i27 ?l27 ?c27 ?k27 ?l28 ?c28 ?k28 ?l29 ?c29 ?k29 ?l30 ?c30 ?k30 ?l31 ?c31 ?k31 ?i32 ?n32 ?l32 ?c32 ?k32 ?i33 ?l33 ?c33 ?k33 ?l34 ?c34 ?k34 ?l35 ?c35 ?k35 ?i36 ?l36 ?c36 ?k36 ?l37 ?c37 ?k37 ?l38 ?c38 ?k38 ?l39 ?c39 ?k39 ?l40 ?c40 ?k40 ?l41 ?c41 ?k41 ?l42 ?c42 ?k42 ?ty_Rule ?pg_Rule ?hd_Rule ?po_Rule ?sa_Rule ?mk_Rule ?kc_Rule ?n_Rule_front ?n_Rule_period ?ha_Rule ?hm_Rule ?ty_Weights ?pg_Weights ?hd_Weights ?po_Weights ?sa_Weights ?mk_Weights ?kc_Weights ?n_Weights_front ?n_Weights_period ?ha_Weights ?hm_Weights ?hn ?ht ?z_abs ?z_all ?z_bool ?z_divmod ?z_enumerate ?z_int ?z_isinstance ?z_len ?z_list ?z_max ?z_min ?z_range ?z_reversed ?z_sum ?z_tuple ?g_GREATEST ?g_HEAVIEST ?g_LEAST ?g_MOST ?m_bool ?m_int ?m_list ?m_tuple
    (case aE_SiltError => k_is)
    (case kE_SiltError => k_is)
    (case xE_SiltError => k_exc)
    (case sE_SiltError => k_is)
    (case tE_SiltError => k_is)
    (case iE_SiltError => k_is)
    (case rE_SiltError => first | rfl | k_is)
    (case aE_BadDay => k_is)
    (case kE_BadDay => k_is)
    (case xE_BadDay => k_exc)
    (case sE_BadDay => k_is)
    (case tE_BadDay => k_is)
    (case iE_BadDay => k_is)
    (case rE_BadDay => first | rfl | k_is)
    (case aE_BadWeights => k_is)
    (case kE_BadWeights => k_is)
    (case xE_BadWeights => k_exc)
    (case sE_BadWeights => k_is)
    (case tE_BadWeights => k_is)
    (case iE_BadWeights => k_is)
    (case rE_BadWeights => first | rfl | k_is)
    (case aC_Rule => k_is)
    (case aC_Weights => k_is)
    (case a1 => k_is)
    (case a2 => k_is)
    (case a3 => k_is)
    (case a4 => k_is)
    (case a5 => k_is)
    (case a6 => k_is)
    (case a7 => k_is)
    (case a8 => k_is)
    (case a9 => k_is)
    (case a10 => k_is)
    (case a11 => k_is)
    (case a12 => k_is)
    (case a13 => k_is)
    (case a14 => k_is)
    (case a15 => k_is)
    (case a16 => k_is)
    (case a17 => k_is)
    (case a18 => k_is)
    (case a19 => k_is)
    (case a20 => k_is)
    (case a21 => k_is)
    (case a22 => k_is)
    (case a23 => k_is)
    (case a24 => k_is)
    (case a25 => k_is)
    (case a26 => k_is)
    (case a27 => k_is)
    (case a28 => k_is)
    (case a29 => k_is)
    (case a30 => k_is)
    (case a31 => k_is)
    (case a32 => k_is)
    (case a33 => k_is)
    (case a34 => k_is)
    (case a35 => k_is)
    (case a36 => k_is)
    (case a37 => k_is)
    (case a38 => k_is)
    (case a39 => k_is)
    (case a40 => k_is)
    (case a41 => k_is)
    (case a42 => k_is)
    (case l1 => k_is)
    (case c1 => k_is)
    (case k1 => k_is)
    (case l2 => k_is)
    (case c2 => k_is)
    (case k2 => k_is)
    (case l3 => k_is)
    (case c3 => k_is)
    (case k3 => k_is)
    (case l4 => k_is)
    (case c4 => k_is)
    (case k4 => k_is)
    (case l5 => k_is)
    (case c5 => k_is)
    (case k5 => k_is)
    (case l6 => k_is)
    (case c6 => k_is)
    (case k6 => k_is)
    (case l7 => k_is)
    (case c7 => k_is)
    (case k7 => k_is)
    (case l8 => k_is)
    (case c8 => k_is)
    (case k8 => k_is)
    (case t8l => k_is)
    (case l9 => k_is)
    (case c9 => k_is)
    (case k9 => k_is)
    (case l10 => k_is)
    (case c10 => k_is)
    (case k10 => k_is)
    (case l11 => k_is)
    (case c11 => k_is)
    (case k11 => k_is)
    (case i12 => k_is)
    (case l12 => k_is)
    (case c12 => k_is)
    (case k12 => k_is)
    (case l13 => k_is)
    (case c13 => k_is)
    (case k13 => k_is)
    (case l14 => k_is)
    (case c14 => k_is)
    (case k14 => k_is)
    (case i15 => k_is)
    (case n15 => k_is)
    (case l15 => k_is)
    (case c15 => k_is)
    (case k15 => k_is)
    (case l16 => k_is)
    (case c16 => k_is)
    (case k16 => k_is)
    (case l17 => k_is)
    (case c17 => k_is)
    (case k17 => k_is)
    (case t17l => k_is)
    (case l18 => k_is)
    (case c18 => k_is)
    (case k18 => k_is)
    (case l19 => k_is)
    (case c19 => k_is)
    (case k19 => k_is)
    (case l20 => k_is)
    (case c20 => k_is)
    (case k20 => k_is)
    (case l21 => k_is)
    (case c21 => k_is)
    (case k21 => k_is)
    (case l22 => k_is)
    (case c22 => k_is)
    (case k22 => k_is)
    (case l23 => k_is)
    (case c23 => k_is)
    (case k23 => k_is)
    (case i24 => k_is)
    (case l24 => k_is)
    (case c24 => k_is)
    (case k24 => k_is)
    (case l25 => k_is)
    (case c25 => k_is)
    (case k25 => k_is)
    (case l26 => k_is)
    (case c26 => k_is)
    (case k26 => k_is)
    (case i27 => k_is)
    (case l27 => k_is)
    (case c27 => k_is)
    (case k27 => k_is)
    (case l28 => k_is)
    (case c28 => k_is)
    (case k28 => k_is)
    (case l29 => k_is)
    (case c29 => k_is)
    (case k29 => k_is)
    (case l30 => k_is)
    (case c30 => k_is)
    (case k30 => k_is)
    (case l31 => k_is)
    (case c31 => k_is)
    (case k31 => k_is)
    (case i32 => k_is)
    (case n32 => k_is)
    (case l32 => k_is)
    (case c32 => k_is)
    (case k32 => k_is)
    (case i33 => k_is)
    (case l33 => k_is)
    (case c33 => k_is)
    (case k33 => k_is)
    (case l34 => k_is)
    (case c34 => k_is)
    (case k34 => k_is)
    (case l35 => k_is)
    (case c35 => k_is)
    (case k35 => k_is)
    (case i36 => k_is)
    (case l36 => k_is)
    (case c36 => k_is)
    (case k36 => k_is)
    (case l37 => k_is)
    (case c37 => k_is)
    (case k37 => k_is)
    (case l38 => k_is)
    (case c38 => k_is)
    (case k38 => k_is)
    (case l39 => k_is)
    (case c39 => k_is)
    (case k39 => k_is)
    (case l40 => k_is)
    (case c40 => k_is)
    (case k40 => k_is)
    (case l41 => k_is)
    (case c41 => k_is)
    (case k41 => k_is)
    (case l42 => k_is)
    (case c42 => k_is)
    (case k42 => k_is)
    (case ty_Rule => k_is)
    (case pg_Rule => k_is)
    (case hd_Rule => k_is)
    (case po_Rule => k_is)
    (case sa_Rule => k_is)
    (case mk_Rule => k_is)
    (case kc_Rule => k_is)
    (case n_Rule_front => k_is)
    (case n_Rule_period => k_is)
    (case ha_Rule => k_is)
    (case hm_Rule => k_is)
    (case ty_Weights => k_is)
    (case pg_Weights => k_is)
    (case hd_Weights => k_is)
    (case po_Weights => k_is)
    (case sa_Weights => k_is)
    (case mk_Weights => k_is)
    (case kc_Weights => k_is)
    (case n_Weights_front => k_is)
    (case n_Weights_period => k_is)
    (case ha_Weights => k_is)
    (case hm_Weights => k_is)
    (case hn => k_is)
    (case ht => k_is)
    (case z_abs => k_is)
    (case z_all => k_is)
    (case z_bool => k_is)
    (case z_divmod => k_is)
    (case z_enumerate => k_is)
    (case z_int => k_is)
    (case z_isinstance => k_is)
    (case z_len => k_is)
    (case z_list => k_is)
    (case z_max => k_is)
    (case z_min => k_is)
    (case z_range => k_is)
    (case z_reversed => k_is)
    (case z_sum => k_is)
    (case z_tuple => k_is)
    (case g_GREATEST => k_is)
    (case g_HEAVIEST => k_is)
    (case g_LEAST => k_is)
    (case g_MOST => k_is)
    (case m_bool => k_is)
    (case m_int => k_is)
    (case m_list => k_is)
    (case m_tuple => k_is)
