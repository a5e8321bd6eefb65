/- Layer 12: frames in memory. -/
import Derived.Test.YtjibkgildfjjoaaDoorzKit
import Derived.Test.YtjibkgildfjjoaaDoorzFmb


